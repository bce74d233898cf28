import PyProof.Rows.All
import Wide.All
import OpenK.AllK
import Wide.FinOn
import Lean
import PyProof.EqAt
import PyProof.EqKinds
import PyProof.TupleCall
import Open.Pieces
import KE.KPairComp
import KE.KRevIter
import PyProof.EnumMake
import PyProof.IsRules
import PyProof.AutoListH
import PyProof.ConsumeWalk
import PyProof.Rows.SortWalk
import PyProof.DictValues
import PyProof.DictWalks
import PyProof.Rows.SumAny
import PyProof.AttrMissHeap
import KE.KDictOf
import KE.KDictList
import PyProof.Rows.SortRev
import PyProof.Rows.CallKwBuiltin
import PyProof.ListStr
import PyProof.CollectIter
import PyProof.ListIndex
import PyProof.Dict
import KE.KLam
import PyProof.Rows.TupDisplay
import PyProof.ZipIter
import PyProof.Rows.SortShell
import PySem.Challenge.RW_twinwires_k40_whole_both_machines_tell_a
open PySem.W renaming Frag→A0a,isFn→A0r,keepIn→A1s,mg_of→A1t,fnOf→A1x,mg_none_of→A2c,findIn→A2h,codeIn→A2t,kia_one→A3d,codeHd_of_K→A3k,boot_heap→A3m,emptyDict→A3n,kla_obj→A3s,kitOne→A3u,instObj→A4f,CodeHd→A4r,ke_shaped_ints→A5h,callWith_K→A5k,envX→A5r,nsIn→A5s,specialIn→A5v,plainGet→A6j,km_in_of→A6p,km_tabs_of→A7d,cellsFrom_some→A7f,hasDictIn→A7h,methodCall_KW→A7w,codeHdIn→A8b,plainGet_of→A8n,lookIn→A9t,tabObj→A9w,methodObj→B0a,plainOver→B0d,takerIn→B1h,makesIn→B1j,readsIn→B1q,findCls→B1r,OpenLaw→B1u,TabsAt→B2f,noTabs→B2g,ke_depthAll→B2m,mroIn→B2s,codeRec_of→B2t,kt_text_in→B2w,kitx_list→B3e,kitx_dict→B3f
open PySem renaming wpAny_bind→A0b,wpAny_pure→A0h,mem_of_lookup→A0x,wpAny_mono→A2m,wpAny_call_entry→A4g,wpAny_Call_Name_kw→A4j,wpAny_newObj_type→A4s,wpAny_passesOwn→A4t,wpAny_holding→A5b,boot_len→A5f,wpAny_truthy_bool→A5u,codeAny_mono→A6q,wpAny_sequenceKey→A7j,slot_list_setitem→A7m,wpAny_dictEntries→A7n,wpAny_execs_cons→A7y,wpAny_execs_nil→A8j,sizeLine_eq→A8m,wpAny_field→A8p,wpAny_richCompare_same_room→A8r,wpAny_newFunctionEnv_cells→A9b,wpAny_pyIter_tuple→A9f,tupleKind_room_in1→A9k,wpAny_assign_Name→B0b,wpAny_standAt→B0q,wpAny_call→B1w,wpAny_listPart→B2e,evalArgs_none→B2k,call→B3b,Within→B3h
open List renaming length_map→A0c,mem_cons_of_mem→A0d,mem_cons_self→A0k,map_cons→A0m,length_append→A0s,mem_singleton→A0t,length_take→A0u,length_cons→A1a,map_append→A1b,size_toArray→A1f,take_length→A1h,mem_map→A1k,lookup_cons→A1n,mem_append→A1q,mem_append_right→A2a,not_mem_nil→A2z,mem_cons→A3a,nodup_cons→A3e,lookup→A3j,map_map→A3q,append_nil→A3v,replicate→A4b,length_filter_le→A4n,length_nil→A4v,foldl_append→A4y,mem_filter→A4z,map_nil→A5a,range→A5d,reverse_cons→A5z,mem_append_left→A6a,mem_of_mem_take→A6b,getElem_mem→A6m,of_mem_zip→A6w,nil_append→A6z,foldl_cons→A7c,flatMap_cons→A7r,mem_range→A7s,length_singleton→A7t,range'_succ→A7z,filter_cons→A8a,any_cons→A8d,all_cons→A8e,filterMap_cons→A8h,map_congr_left→A8s,filter_append→A9s,any_eq_false→B0c,take_sublist→B0e,take_add_one→B0h,append_assoc→B0j,range'→B0u,length_eq_zero_iff→B0w,getElem_inj→B0y,length_drop→B0z,length_replicate→B1k,perm_append_comm→B1t,reverse_reverse→B2c,replicate_succ'→B2d
open Nat renaming testBit_xor→A0e,le_refl→A0f,lt_of_lt_of_le→A0g,eq_of_testBit_eq→A0p,xor_assoc→A0q,and_comm→A0v,pow_le_pow_right→A0w,le_trans→A0y,xor_lt_two_pow→A0z,xor_zero→A1c,xor_self→A1g,ne_of_lt→A1j,two_pow_pos→A1m,pow_lt_pow_right→A1r,zero_le→A1v,mod_two_eq_zero_or_one→A2e,testBit_and→A2f,testBit_two_pow→A2j,testBit_lt_two_pow→A2k,lt_of_le_of_lt→A2n,testBit_div_two→A2r,lt_irrefl→A2v,pow_succ→A2w,and_one_is_mod→A3b,zero_xor→A3c,testBit_zero→A3g,shiftLeft_eq→A3h,testBit_shiftLeft→A3r,lt_succ_self→A3t,testBit_two_pow_self→A3x,zero_testBit→A3z,testBit_or→A4c,lt_or_ge→A4d,le_of_lt→A4h,xor_comm→A4m,testBit_mod_two_pow→A5c,le_of_ble_eq_true→A5n,lt_succ_of_lt→A5x,shiftRight_eq_div_pow→A6h,zero_and→A6r,strongRecOn→A6x,mul_div_cancel_left→A7b,le_one_iff_eq_zero_or_eq_one→A7e,mod_lt→A7p,pow_add→A7q,div_lt_iff_lt_mul→A7x,one_mul→A8t,and_le_left→A8u,mul_lt_mul_of_pos_right→A8v,mod_eq_of_lt→B1c,ne_of_gt→B1g,mul_comm→B1s,le_succ→B2j,add_assoc→B2x,le_of_eq→B3j,lt_trans→B3n,and_self→B3p,and_zero→B3q
open Option.some renaming inj→A0j,injEq→A9z
open PySem.Heap renaming lt_size→A0n,size_push→A5e,SameBut→A9d
open Bool renaming false_ne_true→A1d,false_eq_true→A2b,true_and→A2d,xor_false→A2u,false_and→A2x,and_eq_true→A3y,toNat_true→A4x,and_false→A6f,not_false→A6g,toNat_false→A6n,eq_iff_iff→A6v,not_true→A6y,and_true→A7a,toNat_le→B0v,xor_comm→B2y
open Ne renaming «symm»→A1e
open PySem.Builtin.Int renaming intBits→A1p
open False renaming elim→A1u
open PySem.Value renaming ref→A1w,int→A6u,bool→B1v,str→B2q,none→B3d,float→B3t
open PySem.PassesOwn renaming never→A1y
open PySem.NameKind renaming free→A1z,«local»→A9y,cell→B2v
open Array renaming length_toList→A2g,size_map→A2p,size_extract→A5m,swapIfInBounds_def→B0k,toList_map→B1d,toList_append→B2n,«map»→B3a
open PySem.PyData renaming eqv→A2q,tuple→A3w,eqvAll→A4a,depthAll→A4w,canLayAll0→A5y,canLay0→A6e,depth→A7v,int→B1x
open Option renaming map_some→A2s,getD_some→A6k,getD_none→B1a
open PySem.Builtin renaming bitAnd→A2y,bitXor→A6c,bitOr→A8c,bitNot→B2h
open Prod.mk renaming injEq→A3f
open Int renaming toNat_natCast→A3p,natCast_nonneg→A5j,mul_nonneg_of_nonpos_of_nonpos→A6t,one_mul→A8q,neg_mul_neg→A8w,fdiv_eq_ediv_of_nonneg→A9a,emod_lt_of_pos→A9m,natAbs_natCast→A9p,natAbs_neg→A9v,emod_nonneg→B1m,add_assoc→B2z,add_comm→B3r
open True renaming «intro»→A4e
open PySem.SeqAt renaming shaped→A4k
open PySem.Builtin.Slice renaming slicePlaces→A4p,sliceAdjust→A6d,sliceApplied→A9c
open PySem.Builtin.Dict renaming dictSlotArgs→A4q,samePairs→A7g
open PySem.Builtin.Tuple renaming tupleExact→A4u
open PySem.Calls renaming callWith_builtin→A5g,Name_function_global→A8z,spliced_cons→A9g,evalArgs_plain→B1z
open ForInStep renaming yield→A5p
open PyProof.Rows.KTD renaming datumAt→A5q
open Prod renaming «ext»→A5t
open Std.Legacy.Range renaming forIn_eq_forIn_range'→A5w,size→B1n
open PyProof.Rows.SortSt renaming mk'→A6s
open PyProof.Rows renaming slot_tuple_getitem→A7k,callWith_type1→A8k,assignInOrder_cons→A9e,wpS_bind→A9r,boot_sorted→B0p
open PySem.F renaming slot_dict_get→A7u,slot_int_bit_length→A8x,type_int_bit_length→A8y,slot_list_append→B0m,type_list_append→B0n,args_dict_get_3→B0r,plainAttrs_dict→B0s,slot_dict_items→B0t,plainAttrs_list→B0x,entry_dict_get→B1e,plainAttrs_int→B1f,sub_dict_dict→B1p,slot_dict_eq→B2a,slot_dict_ne→B2b
open PySem.Obj renaming mapSeq→A8f
open Sum renaming inl→A8g,inr→B3c
open PySem.Str renaming ofString→A9h
open PySem.W.KFB renaming if_not→A9j
open Nat.succ renaming inj→A9n
open PyProof.Rows.KTD.Dat renaming flat→A9q
open PySem.Builtin.List renaming listAllItems→A9u,listTooLong→B0f,listSameRef→B0g
open Classical renaming byContradiction→A9x
open PySem.IsL renaming isList→B1b
open PySem.Around renaming frames_deeper→B1y,under→B3k
open Lean.Grind renaming CommRing→B2p
open PySem.Paired renaming length→B2r
open PySem.Heap.IsSliceOf renaming new→B2u
open List.Pairwise renaming imp→B3g
open PySem.Code renaming isFrame→B3m
open Std.Legacy renaming Range→B3s
open PySem.Heap.DictOf renaming new→B3u
open And renaming «intro»→B3v
open List.cons renaming injEq→B3w
set_option maxRecDepth 100000
namespace Tw
open PySem PySem.Calls PySem.W PyProof.Rows
def runG (thr ok:Thread->Bool)(go:SharedT->Thread->Option (SharedT×Thread)):Nat->SharedT->Thread->Option SharedT
 | 0,_,_=>none
 | m+1,a,x=>match thr x with
  | true=>some a
  | false=>match ok x with
   | false=>none
   | true=>match go a x with
    | some (b,y)=>(match Nat.beq b.toks b.toks with
     | true=>runG thr ok go m b y
     | false=>none)
    | none=>none
theorem runG_top {tb:String->Option Builtin}{p:Program}{w:World}{i:Nat}{an:Option Value}:∀(m:Nat) (a b:SharedT) (x:Thread),
  runG through (stepOk i an) (stepT (denote tb) p w) m a x=some b->topRun tb p w i an m a.abs x=some b.abs
 | 0,_,_,_,h=>by cases h
 | m+1,a,b,x,h=>by
  unfold runG at h;unfold topRun
  cases e1:through x with
  | true=>rw[e1] at h;cases h;rfl
  | false=>
   rw[e1] at h
   cases e2:stepOk i an x with
   | false=>rw[e2] at h;cases h
   | true=>
    rw[e2] at h
    cases e3:stepT (denote tb) p w a x with
    | none=>rw[e3] at h;cases h
    | some r=>
     obtain⟨c,y⟩:=r;rw[e3] at h;rw[stepT_spec e3];dsimp only at h ⊢
     cases e4:Nat.beq c.toks c.toks with
     | false=>rw[e4] at h;cases h
     | true=>rw[e4] at h;exact runG_top m c b y h
def runT (p:Program)(w:World)(i:Nat)(an:Option Value)(m:Nat)(a:SharedT):Option SharedT:=runG through (stepOk i an) (stepT (denote treeTable) p w) m a (topStub p)
noncomputable def bootT (P:Params):BT:=((A3m P).objs.toList.foldl (fun (x:BT×Nat) o=>(x.1.ins x.2 o,x.2+1)) (BT.nil,0)).1
noncomputable def d7g (n:Nat)(w:World)(os:OsState):SharedT:=⟨bootT w.params,n,(A3m w.params).life,Array.mk [],boot_drawn,boot_toks,os⟩
noncomputable def d3v (p q:Program)(lo:List Str)(Xt:Shared->Bool)(bh:Heap)(s:Shared):=
 ((staticsOk (importedModules p.main.body) bh s.heap&&namesBound p s.heap&&gensDone s&&laidKept bh s.heap),openSeen q lo (importedModules p.main.body) Xt true s)
theorem left_once {p q:Program}{lo:List Str}{Xt:Shared->Bool}{β:Type}{Yf:Shared->β}{Ya:World->β}{N M n:Nat}{an:Option Value}(row:String)
  (e:opening p=plainProg p.main.scope.names) (h6:Nat.ble 600 N=true) (fe:∀s,fenceModules? p s=some s)
  (tr:∀P,absHeap (bootT P) n (A3m P).life=A3m P)
  (sz:∀P,((A3m P).isNs mainGlobals,(A3m P).objs.size,(A3m P).nsMap mainGlobals "__annotations__")=(true,n,an))
  (le:Nat.ble M N=true)
  (run0:∀(w:World) (os:OsState),(runT p (w.withFollow row false) n an M (d7g n (w.withFollow row false) os)).map (fun s=>(d3v p q lo Xt (A3m (w.withFollow row false).params) s.abs,Yf s.abs))=some ((true,openGood q lo),Ya (w.withFollow row false)))
  (run1:∀(w:World) (os:OsState),(runT p (w.withFollow row true) n an M (d7g n (w.withFollow row true) os)).map (fun s=>(d3v p q lo Xt (A3m (w.withFollow row true).params) s.abs,Yf s.abs))=some ((true,openGood q lo),Ya (w.withFollow row true))) :
  LeftO p q lo Xt Yf Ya N true:=byRow2 row (P:=fun w=>(openEnds treeTable p w N).map (fun s=>(openSeen q lo (importedModules p.main.body) Xt true s,Yf s))=some (openGood q lo,Ya w)) (fun w=>one _ (run0 w)) (fun w=>one _ (run1 w))
 where
 one (w:World) (run:∀os:OsState,(runT p w n an M (d7g n w os)).map (fun s=>(d3v p q lo Xt (A3m w.params) s.abs,Yf s.abs))=some ((true,openGood q lo),Ya w)) :
   (openEnds treeTable p w N).map (fun s=>(openSeen q lo (importedModules p.main.body) Xt true s,Yf s))=some (openGood q lo,Ya w):=by
  obtain⟨⟨h,gs,d,k,os⟩,a1,a2⟩:=Option.map_eq_some_iff.mp (boot_open e h6 fe w);simp only[A3f] at a2;obtain⟨rfl,rfl,rfl,rfl⟩:=a2;obtain⟨b,b1,b2⟩:=Option.map_eq_some_iff.mp (run os);simp only[A3f,d3v] at b2;obtain⟨⟨l1,l2⟩,l3⟩:=b2
  have r:topRun treeTable p w n an M ⟨A3m w.params,Array.mk [],boot_drawn,boot_toks,os⟩ (topStub p)=some b.abs:=by
   have:=runG_top _ _ _ _ b1;rw[<- tr w.params];exact this
  have r:=topRun_mono (N-M) _ _ _ _ r;rw[show M+(N-M)=N by have:=A5n le;omega] at r;have z:=sz w.params;simp only[A3f] at z;obtain⟨z1,z2,z3⟩:=z
  have t:topFrom treeTable p w N ⟨A3m w.params,Array.mk [],boot_drawn,boot_toks,os⟩=some b.abs:=by
   unfold topFrom;dsimp only;rw[z1,z2,z3,r];show (match staticsOk (importedModules p.main.body) (A3m w.params) b.abs.heap&&namesBound p b.abs.heap&&gensDone b.abs&&laidKept (A3m w.params) b.abs.heap with|true=>some b.abs|false=>none)=_;rw[l1]
  unfold openEnds;rw[a1];show (topFrom treeTable p w N _).map _=_;rw[t];exact congrArg some (A5t l2 l3)
theorem runT_self:Tw.runT=Tw.runT:=rfl
theorem lookT_self:@Tw.d3v= @Tw.d3v:=rfl
end Tw
lay_quick Tw.runT Tw.d3v
name_quick runQ for Tw.runT by Tw.runT_self
name_quick lookQ for Tw.d3v by Tw.lookT_self
namespace Tw
open PySem PySem.Calls PySem.W PyProof.Rows
theorem boot_tree (P:Params):absHeap (bootT P) 11 (A3m P).life=A3m P:=by kernel_rfl
theorem boot_size (P:Params):((A3m P).isNs mainGlobals,(A3m P).objs.size,(A3m P).nsMap mainGlobals "__annotations__")=(true,11,some (.ref 6)):=by kernel_rfl
def RunOk (r:OpenRow)(q:Program)(lo:List Str)(lv:List (Str×WData))(H:Hook)(N:Nat)(row:String)(b:Bool):Prop:=
 ∀(w:World) (os:OsState),(Fast.runQ r.prog (w.withFollow row b) 11 (some (.ref 6)) N (d7g 11 (w.withFollow row b) os)).map (fun s=>(Fast.lookQ r.prog q lo (fun s=>xlAt q lv s&&recOk r.records s) (A3m (w.withFollow row b).params) s.abs,H.obs s.abs))=some ((true,openGood q lo),H.val (w.withFollow row b))
theorem holds_once {r:OpenRow}{q:Program}{lo:List Str}{lv:List (Str×WData)}{d:DefRec}{kwd:List (Str×Expr)}{N:Nat}{H:Hook}{row:String}(run0:RunOk r q lo lv H N row false)(run1:RunOk r q lo lv H N row true)
  (e:opening r.prog=plainProg r.prog.main.scope.names) (fe:∀s,fenceModules? r.prog s=some s) (h6:Nat.ble 600 N=true)
  (hd:defOf q r.name=some (d,kwd)) (hp:r.prog.theDef r.name=some (d.params,d.body,d.scope)) (hk:kwWritten? d.params.kwonlyargs d.params.kw_defaults=some kwd) (hwr:(!r.writes||r.records.isEmpty)=true)
  (k1:r.wellSaid=true) (ok:(chainsOk q&&opensWell r.prog&&(frees r.toRowW&&r.within.isEmpty))=true) (hb:r.prog.bare) (hw:r.toRowW.promised) (hc:WalkO q lo (XL q lv) H.says r.toRowW d kwd fun f vs=>B3b f vs):r.Holds:=
 holds_open (Xt:=fun s=>xlAt q lv s&&recOk r.records s) (N:=N)
  (left_once (M:=N) row e h6 fe boot_tree boot_size (Nat.ble_eq.mpr (A0f N)) (by rw[Fast.runQ_eq,Fast.lookQ_eq];exact run0) (by rw[Fast.runQ_eq,Fast.lookQ_eq];exact run1))
  H.of H.keeps (fun s z=>xl_of s (Bool.and_eq_true_iff.mp z).1) XL.keeps hd hp hk (fun s z=>recFacts_of (Bool.and_eq_true_iff.mp z).2) hwr k1 ok hb hw hc
noncomputable def lookA (p q:Program)(bh:Heap)(s:Shared):=
 ((staticsOk (importedModules p.main.body) bh s.heap&&namesBound p s.heap&&gensDone s&&laidKept bh s.heap),seen ((recsOf q).map (·.name)) (ownsOf q) [] { s with gens:=#[] })
noncomputable def lookB (p q:Program)(lo:List Str)(Xt:Shared->Bool)(s:Shared):=
 (s.heap.bltView,(s.heap.keysOk (looseW q lo) ((recsOf q).map (·.name)) ((litsOf q).map (·.1)) ((clssOf q (looseW q lo)).map (·.name))&&s.heap.accountedOkI (importedModules p.main.body)&&s.heap.isNs mainGlobals&&s.heap.isNs builtinsNs&&tablesOk q s.heap&&Xt s&&(if true then s.gens.size==0 else !leftWithCleanup s.gens)),tabsOk q s,pinSeenD q (drecsOf q) s)
noncomputable def lookC (q:Program)(lo:List Str)(s:Shared):=
 (plainSeenE q (looseW q lo) s,plainSeenD q lo s,wideSeen q s,clsSeenW q lo s)
theorem lookA_self:@Tw.lookA= @Tw.lookA:=rfl
theorem lookB_self:@Tw.lookB= @Tw.lookB:=rfl
theorem lookC_self:@Tw.lookC= @Tw.lookC:=rfl
theorem map2 {α β γ:Type}{o:Option α}{f:α->β}{g:α->γ}{a:β}{b:γ}(h1:o.map f=some a)(h2:o.map g=some b):o.map (fun s=>(f s,g s))=some (a,b):=by
 cases o with
 | none=>cases h1
 | some s=>
  cases h1;cases h2;rfl
end Tw
lay_quick Tw.lookA Tw.lookB Tw.lookC
name_quick lookAQ for Tw.lookA by Tw.lookA_self
name_quick lookBQ for Tw.lookB by Tw.lookB_self
name_quick lookCQ for Tw.lookC by Tw.lookC_self
namespace Tw
open PySem PySem.Calls PySem.W PyProof.Rows
def RunA (r:OpenRow)(q:Program)(N:Nat)(row:String)(b:Bool):Prop:=
 ∀(w:World) (os:OsState),(Fast.runQ r.prog (w.withFollow row b) 11 (some (.ref 6)) N (d7g 11 (w.withFollow row b) os)).map (fun s=>Fast.lookAQ r.prog q (A3m (w.withFollow row b).params) s.abs)=some (true,expectedOf q)
def RunB (r:OpenRow)(q:Program)(lo:List Str)(lv:List (Str×WData))(N:Nat)(row:String)(b:Bool):Prop:=
 ∀(w:World) (os:OsState),(Fast.runQ r.prog (w.withFollow row b) 11 (some (.ref 6)) N (d7g 11 (w.withFollow row b) os)).map (fun s=>Fast.lookBQ r.prog q lo (fun s=>xlAt q lv s&&recOk r.records s) s.abs)=some (bltViewBooted,true,true,pinGoodD (drecsOf q))
def RunC (r:OpenRow)(q:Program)(lo:List Str)(N:Nat)(row:String)(b:Bool):Prop:=
 ∀(w:World) (os:OsState),(Fast.runQ r.prog (w.withFollow row b) 11 (some (.ref 6)) N (d7g 11 (w.withFollow row b) os)).map (fun s=>Fast.lookCQ q lo s.abs)=some (plainGoodE q (looseW q lo),plainGoodD q lo,wideGood q,clsGoodW q lo)
def RunH (r:OpenRow)(H:Hook)(N:Nat)(row:String)(b:Bool):Prop:=
 ∀(w:World) (os:OsState),(Fast.runQ r.prog (w.withFollow row b) 11 (some (.ref 6)) N (d7g 11 (w.withFollow row b) os)).map (fun s=>H.obs s.abs)=some (H.val (w.withFollow row b))
theorem RunOk.parts {r:OpenRow}{q:Program}{lo:List Str}{lv:List (Str×WData)}{H:Hook}{N:Nat}{row:String}{b:Bool}(a:RunA r q N row b)(b':RunB r q lo lv N row b)(c:RunC r q lo N row b)(h:RunH r H N row b):RunOk r q lo lv H N row b:=fun w os=>by
 have a1:=a w os;have b1:=b' w os;have c1:=c w os;have h1:=h w os;rw[<- Fast.lookAQ_eq] at a1;rw[<- Fast.lookBQ_eq] at b1;rw[<- Fast.lookCQ_eq] at c1;rw[<- Fast.lookQ_eq];have z:=map2 (map2 a1 (map2 b1 c1)) h1
 cases e:Fast.runQ r.prog (w.withFollow row b) 11 (some (.ref 6)) N (d7g 11 (w.withFollow row b) os) with
 | none=>rw[e] at z;cases z
 | some s=>
  rw[e] at z;simp only[A2s,A9z,A3f,lookA,lookB,lookC] at z;obtain⟨⟨⟨z1,z2⟩,⟨z3,z4,z5,z6⟩,z7,z8,z9,z10⟩,z11⟩:=z;simp only[A2s,d3v,openSeen,openGood];rw[z1,z2,z3,z5,z6,z7,z8,z9,z10,z11];rw[z4]
end Tw
set_option Elab.async false
section
open PySem PySem.W
set_option maxHeartbeats 0
local macro_rules|`(tactic| o_head $_)=>`(tactic| assumption)
theorem Tw.pre:PySem.Challenge.rw_twinwires_k40_whole_both_machines_tell_a.row.Holds->PySem.Challenge.rw_twinwires_k40_whole_both_machines_tell_a.row.Holds:=by
 intro _
 k_head
noncomputable def Tw.vw:Program:=PySem.W.view PySem.Challenge.pw_twinwires_k40_whole_both_machines_tell_a [0,2,3,4,5,6,7,9,10,11,12,13,14,15,17,18,19,20,22,23,24,25,26,27,28,29,30,31,32,34,35,36,37,38,39,40,41,42,43,44,45,46,47,49,50,51,53,54,56,57,58,60,61,62,63,65,67,68,70,72,73,74,75,76,77,78,79,80,81,82,83,84,85,86,87]
noncomputable def Tw.hk:PySem.W.Hook:=PySem.W.kmHook Tw.pre.heap_1 [2,3,15,17,18,20,21,22,24,25,27,28,29,31,32,34,35,36,39,40,41,43,44,46,47,48,50,51,53,54,55,62,63,64,65,68,75,76,77,80,87,88,89,92,99,100,101,104,111,112,113,116,123,124,125,128,135,136,137,140,142,143,145,146,147,149,150,152,153,154,156,157,159,160,161,163,164,166,167,168,171,172,173,175,176,178,179,180,182,183,185,186,187,189,190,192,193,194,196,197,199,200,201,203,204,206,207,208,210,211,213,214,215,217,218,220,221,222,230,232,233,235,236,237,239,240,242,243,244,246,247,249,250,251,253,254,256,257,258,259,260,261,262,265,272,274,275,277,278,279,281,282,284,285,286,288,289,291,292,293,294,295,298,305,307,308,310,311,312,314,315,317,318,319,321,322,324,325,326,327,328,331,338,340,341,343,344,345,347,348,350,351,352,354,355,357,358,359,360,361,364,371,373,374,376,377,378,380,381,383,384,385,387,388,390,391,392,393,394,397,404,406,407,409,410,411,413,414,416,417,418,420,421,423,424,425,426,427,430,437,439,440,442,443,444,446,447,449,450,451,453,454,456,457,458,459,460,463,465,466,468,469,470,472,473,475,476,477,479,480,482,483,484,486,487,489,490,491,493,494,496,497,498,501,502,510,512,513,515,516,517,519,520,522,523,524,526,527,529,530,531,532,534,535,537,538,539,540,541,542,543,546,548,549,551,552,553,555,556,558,559,567,570,571,572,574,575,577,578,579,580,581,582,583,586,588,589,591,592,593,594,596,597,599,600,601,603,604,606,607,608,610,611,613,614,615,617,618,620,621,622,624,625,627,628,629,631,632,634,635,636,643,645,646,648,649,650,652,653,655,656,657,659,660,662,663,664,666,667,669,670,671,673,674,676,677,678,679,680,690,692,693,695,696,697,699,700,702,703,704,706,707,709,710,711,713,714,716,717,718,720,721,723,724,725,727,728,730,731,732,733,734,735,736,739,742,743,744,747,748,749,756,759,760,761,763,764,766,767,768,771,772,773,775,776,778,779,780,783,784,785,786,787,790,792,793,795,796,797,799,800,802,803,804,806,807,809,810,811,813,814,816,817,830,832,833,835,836,837,839,840,842,843,844,846,847,849,850,851,853,854,856,857,858,860,861,863,864,865,868,869,870,872,873,875,876,877,880,881,882,884,885,887,888,889,892,893] (fun _=>by kernel_rfl) [287,419,452,587]
theorem Tw.runA0:Tw.RunA PySem.Challenge.rw_twinwires_k40_whole_both_machines_tell_a.row Tw.vw 14446 "special-get-raises" false:=fun w os=>by kernel_rfl
theorem Tw.runB0:Tw.RunB PySem.Challenge.rw_twinwires_k40_whole_both_machines_tell_a.row Tw.vw ["WIRES_BEHIND","run_work"] [] 14446 "special-get-raises" false:=fun w os=>by kernel_rfl
theorem Tw.runC0:Tw.RunC PySem.Challenge.rw_twinwires_k40_whole_both_machines_tell_a.row Tw.vw ["WIRES_BEHIND","run_work"] 14446 "special-get-raises" false:=fun w os=>by kernel_rfl
theorem Tw.runH0:Tw.RunH PySem.Challenge.rw_twinwires_k40_whole_both_machines_tell_a.row Tw.hk 14446 "special-get-raises" false:=fun w os=>by kernel_rfl
theorem Tw.run0:Tw.RunOk PySem.Challenge.rw_twinwires_k40_whole_both_machines_tell_a.row Tw.vw ["WIRES_BEHIND","run_work"] [] Tw.hk 14446 "special-get-raises" false:=Tw.RunOk.parts Tw.runA0 Tw.runB0 Tw.runC0 Tw.runH0
theorem Tw.runA1:Tw.RunA PySem.Challenge.rw_twinwires_k40_whole_both_machines_tell_a.row Tw.vw 14446 "special-get-raises" true:=fun w os=>by kernel_rfl
theorem Tw.runB1:Tw.RunB PySem.Challenge.rw_twinwires_k40_whole_both_machines_tell_a.row Tw.vw ["WIRES_BEHIND","run_work"] [] 14446 "special-get-raises" true:=fun w os=>by kernel_rfl
theorem Tw.runC1:Tw.RunC PySem.Challenge.rw_twinwires_k40_whole_both_machines_tell_a.row Tw.vw ["WIRES_BEHIND","run_work"] 14446 "special-get-raises" true:=fun w os=>by kernel_rfl
theorem Tw.runH1:Tw.RunH PySem.Challenge.rw_twinwires_k40_whole_both_machines_tell_a.row Tw.hk 14446 "special-get-raises" true:=fun w os=>by kernel_rfl
theorem Tw.run1:Tw.RunOk PySem.Challenge.rw_twinwires_k40_whole_both_machines_tell_a.row Tw.vw ["WIRES_BEHIND","run_work"] [] Tw.hk 14446 "special-get-raises" true:=Tw.RunOk.parts Tw.runA1 Tw.runB1 Tw.runC1 Tw.runH1
theorem Tw.ws:PySem.Challenge.rw_twinwires_k40_whole_both_machines_tell_a.wellSaid=true:=by kernel_rfl
end
set_option linter.all false
namespace L2
open PySem PySem.Spec PyProof.Rows
variable {K:A0a}{C a b dx f it:Addr}{A:Around}{g':Array GenState}{op:CmpOp}{d':Drawn}{c e l tg:Expr}{h:Heap}{lo:Int}{pins:List (Addr×Obj)}{kw:List (Str×Value)}{ch fp:List Addr}{es:List Expr}{body:List Stmt}{N ps:List Str}{us:List Value}{M:Model}{i j k t':Nat}{o:Obj}{pos:Pos}{P:Program}{scope:Scope}{pl:Sem Bool}{s:Shared}{qual x:Str}{u:Value}
abbrev Key:=Sum Int Str
def keyIs:Key->Value->Bool
 | .inl k,v=>Value.isInt k v
 | .inr x,v=>Value.isStrOf x v
def keyH (w:World):Key->Int
 | .inl k=>hashInt k
 | .inr x=>hashStr w x
theorem a3r:∀{k:Key} {v:Value},keyIs k v=true->(∃i t,k=A8g i/\v=A6u i t)\/(∃x t,k=B3c x/\v=B2q x t)
 | .inl i,v,h=>by
  obtain⟨t,e⟩:=Value.isInt_shape (k:=i) (v:=v) h;exact .inl ⟨i,t,rfl,e⟩
 | .inr x,v,h=>by
  obtain⟨t,e⟩:=Value.isStrOf_shape (x:=x) (v:=v) h;exact .inr ⟨x,t,rfl,e⟩
theorem keyIs_int (i:Int)(t:Tok):keyIs (.inl i) (.int i t)=true:=by simp[keyIs,Value.isInt]
theorem keyIs_str (x:Str)(t:Tok):keyIs (.inr x) (.str x t)=true:=by simp[keyIs,Value.isStrOf]
theorem key_ll (a b:Int):decide ((A8g a:Key)=A8g b)=(a==b):=by
 by_cases e:a=b
 ·subst e;simp
 ·have h:¬(A8g a:Key)=A8g b:=fun q=>e (Sum.inl.inj q);rw[decide_eq_false h];exact(beq_eq_false_iff_ne.mpr e).symm
theorem key_rr (a b:Str):decide ((B3c a:Key)=B3c b)=decide (a=b):=by
 by_cases e:a=b
 ·subst e;simp
 ·have h:¬(B3c a:Key)=B3c b:=fun q=>e (Sum.inr.inj q);rw[decide_eq_false h,decide_eq_false e]
theorem key_lr (a:Int)(b:Str):decide ((A8g a:Key)=B3c b)=false:=decide_eq_false (fun q=>nomatch q)
theorem key_rl (a:Str)(b:Int):decide ((B3c a:Key)=A8g b)=false:=decide_eq_false (fun q=>nomatch q)
def a1s (prog:Program)(w:World):PySem.KeyKind prog w Key where
 is:=keyIs
 hash:=keyH w
 inj:=fun v a b ha hb=>by
  rcases a3r ha with ⟨i,t,rfl,rfl⟩|⟨x,t,rfl,rfl⟩
  ·rcases a3r hb with ⟨j,u,rfl,e⟩|⟨y,u,rfl,e⟩
   ·injection e with e1 _;rw[e1]
   ·exact nomatch e
  ·rcases a3r hb with ⟨j,u,rfl,e⟩|⟨y,u,rfl,e⟩
   ·exact nomatch e
   ·injection e with e1 _;rw[e1]
 byValue:=fun k v h=>by
  rcases a3r h with ⟨i,t,rfl,rfl⟩|⟨x,t,rfl,rfl⟩<;>rfl
 pyHash:=fun hv h=>by
  rcases a3r hv with ⟨i,t,rfl,rfl⟩|⟨x,t,rfl,rfl⟩
  ·exact wpAny_pyHash_int h
  ·exact wpAny_pyHash_str h
 eqBool:=fun hu hv h=>by
  rcases a3r hu with ⟨i,t,rfl,rfl⟩|⟨x,t,rfl,rfl⟩
  ·rcases a3r hv with ⟨j,u,rfl,rfl⟩|⟨y,u,rfl,rfl⟩
   ·rw[key_ll] at h;exact wpAny_eqBool_int h
   ·rw[key_lr] at h;exact SeqAt.EqAt.int_str i t y u _ _ _ _ h
  ·rcases a3r hv with ⟨j,u,rfl,rfl⟩|⟨y,u,rfl,rfl⟩
   ·rw[key_rl] at h;exact SeqAt.EqAt.str_int x t j u _ _ _ _ h
   ·rw[key_rr] at h;exact wpAny_eqBool_str h
 «strs»:=fun k x t v h=>by
  rcases a3r h with ⟨i,u,rfl,e⟩|⟨y,u,rfl,e⟩
  ·exact nomatch e
  ·injection e with e1 _
   subst e1;cases v<;>rfl
theorem mixKind_int (prog:Program)(w:World)(i:Int)(t:Tok):(a1s prog w).is (.inl i) (.int i t)=true:=keyIs_int i t
theorem mixKind_str (prog:Program)(w:World)(x:Str)(t:Tok):(a1s prog w).is (.inr x) (.str x t)=true:=keyIs_str x t
inductive V where
 | non|bl (b:Bool)|int (i:Int)|str (x:Str)|byt (b:Array UInt8)|flt (b:UInt64)|ref (a:Addr)|ty (n:String)
 deriving DecidableEq
def a4s:V->Value->Prop
 | .non,u=>u=B3d
 | .bl b,u=>u=B1v b
 | .int i,u=>∃t,u=A6u i t
 | .str x,u=>∃t,u=B2q x t
 | .byt b,u=>∃t,u=Value.bytes b t
 | .flt b,u=>∃t,u=B3t b t
 | .ref a,u=>u=A1w a
 | .ty n,u=>u=Value.type n
abbrev a5f:List V->List Value->Prop:=Paired a4s
theorem a5f.length {xs:List V}{us:List Value}(r:a5f xs us):xs.length=us.length:=B2r r
theorem a5f.get:∀{xs:List V} {us:List Value} {i:Nat} {x:V},a5f xs us->xs[i]? = some x->∃u,us[i]? = some u/\a4s x u
 | _,_,_,_,.nil,e=>by simp at e
 | _,_,0,_,.cons r _,e=>by simp at e;subst e;exact⟨_,rfl,r⟩
 | _,_,i+1,x,.cons _ t,e=>by
  obtain⟨u,h1,h2⟩:=a5f.get (i:=i) (x:=x) t (by simpa using e);exact⟨u,by simpa using h1,h2⟩
theorem a5f.append:∀{xs ys:List V} {us ws:List Value},a5f xs us->a5f ys ws->a5f (xs++ys) (us++ws)
 | _,_,_,_,.nil,s=>s
 | _,_,_,_,.cons r t,s=>.cons r (a5f.append t s)
theorem a5f.take:∀{xs:List V} {us:List Value} (n:Nat),a5f xs us->a5f (xs.take n) (us.take n)
 | _,_,0,_=>.nil
 | _,_,_+1,.nil=>.nil
 | _,_,n+1,.cons r t=>.cons r (a5f.take n t)
theorem a5f.drop:∀{xs:List V} {us:List Value} (n:Nat),a5f xs us->a5f (xs.drop n) (us.drop n)
 | _,_,0,r=>r
 | _,_,_+1,.nil=>.nil
 | _,_,n+1,.cons _ t=>a5f.drop n t
def RelO:Option V->Option Value->Prop
 | some v,some u=>a4s v u
 | none,none=>True
 | _,_=>False
def KV {κ:Type}:List (κ×V)->List (κ×Value)->Prop:=Paired fun (p:κ×V) (q:κ×Value)=>p.1=q.1/\a4s p.2 q.2
def kV:Key->V
 | .inl i=>.int i
 | .inr x=>.str x
inductive HO where
 /-- a list -/
 | lst (xs:List V)
 /-- a tuple (never changes) -/
 | tup (xs:List V)
 /-- a dict whose keys are ints and texts;one whose keys are tuples of ints and texts (the empty one is both) -/
 | dK (kvs:List (Key×V))|dT (kvs:List (List Key×V))
 /-- a set of ints: its members,its size -/
 | set (S:Int->Bool) (n:Nat)
 /-- an instance of the class at C,its dict at dx,its attributes -/
 | ins (C dx:Addr) (fs:List (Str×V))
 /-- the dict of the instance at x -/
 | own (x:Addr)
 /-- the dict of an exception -/
 | xd (fs:List (Str×V))
 /-- a bound method,f of x -/
 | met (f x:Addr)
 /-- a range object lo,lo+1,.. below hi -/
 | rng (lo hi:Int)
 /-- a thing that is known to the object (the script;a dict while a loop walks it): read,never written while it is so -/
 | frz (o:Obj) (u:HO)
 /-- a code object's table -/
 | tbl (ps:Array Value)
 /-- any other thing,by what is true of its one object (a def of one's own: SetO a S n:=HO.ext fun h=>..) -/
 | ext (φ:Heap->Prop)
abbrev Hp:=Addr->Option HO
def upd (H:Hp)(a:Addr)(o:HO):Hp:=fun b=>if b=a then some o else H b
theorem a0b {H:Hp}{o:HO}:upd H a o a=some o:=by unfold upd;rw[if_pos rfl]
theorem a0q {H:Hp}{o:HO}(h:b≠a):upd H a o b=H b:=by unfold upd;rw[if_neg h]
theorem d6z {H:Hp}{o u:HO}:upd (upd H a o) a u=upd H a u:=by
 funext b;unfold upd;split<;>rfl
theorem c3r {H:Hp}{o u:HO}(h:H a=some o)(h':H b=some u)(d:o≠u):a≠b:=by
 intro e;subst e;rw[h] at h';exact d (A0j h')
theorem a0p {H:Hp}{o:HO}(h:H a=some o)(h':H b=none):a≠b:=by
 intro e;subst e;rw[h] at h';cases h'
section
variable (P:Program)(w:World)
def a5g (H:Hp)(h:Heap)(a:Addr):HO->Prop
 | .lst xs=>xs.length<=sizeLine/\∃(its:List Value) (n:Nat),a5f xs its/\h.get? a=some { cls:=.type "list",data:=.seq its.toArray n }
 | .tup xs=>xs.length<=sizeLine/\∃its:List Value,a5f xs its/\IsTup h a its.toArray
 | .dK kvs=>kvs.length<=sizeLine/\(a==sysModules)=false/\∃vs,KV kvs vs/\h.DictOf (a1s P w) a vs
 | .dT kvs=>kvs.length<=sizeLine/\(a==sysModules)=false/\∃xs:List (List Key×Addr×Value),
   Paired (fun (p:List Key×V) (q:List Key×Addr×Value)=>p.1=q.1/\H q.2.1=some (.tup (p.1.map kV))/\a4s p.2 q.2.2) kvs xs/\
   ∃o es ep,h.get? a=some o/\o.ExactDict/\o.data=.dict es ep/\es.toList=xs.map (entryOfKey (tupleKind (a1s P w)))/\(xs.map (·.1)).Nodup
 | .set S n=>h.SetOf (intKind P w) a S n
 | .ins C dx fs=>H dx=some (.own a)/\fs.length<=1000/\dx≠a/\h.get? a=some (A4f C dx)/\
   ∃mA,h.Ns1 dx mA/\(∀f,RelO (fs.lookup f) (mA f))/\B3h mA (fs.map (·.1))
 | .own _=>∃o,h.get? a=some o
 | .xd fs=>∃mA,h.Ns1 a mA/\∀f,RelO (fs.lookup f) (mA f)
 | .rng lo hi=>∃t u v,h.get? a=some { cls:=.type "range",data:=.fields #[.int lo t,.int hi u,.int 1 v] }
 | .frz o u=>h.get? a=some o/\a5g H h a u
 | .tbl ps=>h.get? a=some { cls:=.none,data:=.fields ps }
 | .met f x=>h.get? a=some (B0a (.ref f) (.ref x))
 | .ext φ=>φ h/\(∃o,h.get? a=some o)/\∀h1 h2:Heap,φ h1->(∀o,h1.get? a=some o->h2.get? a=some o)->φ h2
def HOk (H:Hp)(h:Heap):Prop:=∀a o,H a=some o->a5g P w H h a o
end
section
variable {P:Program}{w:World}{H H':Hp}{h h':Heap}{a:Addr}{o:HO}
theorem a5g.lt (x:a5g P w H h a o):a<h.objs.size:=by
 cases o with
 | lst xs=>obtain⟨_,_,_,_,e⟩:=x;exact A0n e
 | tup xs=>obtain⟨_,_,_,p⟩:=x;exact p.lt
 | dK kvs=>obtain⟨_,_,_,_,o,_,_,e,_⟩:=x;exact A0n e
 | dT kvs=>obtain⟨_,_,_,_,o,_,_,e,_⟩:=x;exact A0n e
 | set S n=>obtain⟨o,_,_,_,e,_⟩:=x;exact A0n e
 | ins C dx fs=>obtain⟨_,_,_,e,_⟩:=x;exact A0n e
 | own y=>obtain⟨_,e⟩:=x;exact A0n e
 | xd fs=>obtain⟨_,⟨_,_,_,e,_⟩,_⟩:=x;exact A0n e
 | rng lo hi=>obtain⟨_,_,_,e⟩:=x;exact A0n e
 | frz ob u=>obtain⟨e,_⟩:=x;exact A0n e
 | tbl ps=>exact A0n (show h.get? a=some _ from x)
 | met f y=>exact A0n (show h.get? a=some _ from x)
 | ext φ=>obtain⟨_,⟨_,e⟩,_⟩:=x;exact A0n e
theorem Paired.mapP {α β:Type}{F G:α->β->Prop}:∀{l₁:List α} {l₂:List β},Paired F l₁ l₂->(∀a b,F a b->G a b)->Paired G l₁ l₂
 | _,_,.nil,_=>.nil
 | _,_,.cons r t,f=>.cons (f _ _ r) (Paired.mapP t f)
theorem a5g.stay (x:a5g P w H h a o)(k:∀b u,(b=a\/H b=some (.own a))->h.get? b=some u->h'.get? b=some u)
  (ho:∀b,H b=some (.own a)->H' b=some (.own a)) (ht:∀b xs,H b=some (.tup xs)->H' b=some (.tup xs)):a5g P w H' h' a o:=by
 induction o with
 | lst xs=>obtain⟨z,its,n,r,e⟩:=x;exact⟨z,its,n,r,k _ _ (.inl rfl) e⟩
 | tup xs=>obtain⟨z,its,r,ob,e,c⟩:=x;exact⟨z,its,r,ob,k _ _ (.inl rfl) e,c⟩
 | dK kvs=>obtain⟨z,y,vs,r,ob,es,ep,e,c⟩:=x;exact⟨z,y,vs,r,ob,es,ep,k _ _ (.inl rfl) e,c⟩
 | dT kvs=>
  obtain⟨z,y,xs,r,ob,es,ep,e,c⟩:=x;exact⟨z,y,xs,Paired.mapP r fun p q z=>⟨z.1,ht _ _ z.2.1,z.2.2⟩,ob,es,ep,k _ _ (.inl rfl) e,c⟩
 | set S n=>obtain⟨ob,es,ep,t,e,c⟩:=x;exact⟨ob,es,ep,t,k _ _ (.inl rfl) e,c⟩
 | ins C dx fs=>
  obtain⟨d,z,ne,e,mA,⟨od,es,ep,e2,c⟩,r⟩:=x;exact⟨ho _ d,z,ne,k _ _ (.inl rfl) e,mA,⟨od,es,ep,k _ _ (.inr d) e2,c⟩,r⟩
 | own y=>obtain⟨ob,e⟩:=x;exact⟨ob,k _ _ (.inl rfl) e⟩
 | xd fs=>obtain⟨mA,⟨od,es,ep,e,c⟩,r⟩:=x;exact⟨mA,⟨od,es,ep,k _ _ (.inl rfl) e,c⟩,r⟩
 | rng lo hi=>obtain⟨t,u,v,e⟩:=x;exact⟨t,u,v,k _ _ (.inl rfl) e⟩
 | frz ob u ih=>obtain⟨e,q⟩:=x;exact⟨k _ _ (.inl rfl) e,ih q⟩
 | tbl ps=>
  have e:h.get? a=some { cls:=.none,data:=.fields ps }:=x;show h'.get? a=some { cls:=.none,data:=.fields ps };exact k a _ (.inl rfl) e
 | met f y=>
  have e:h.get? a=some (B0a (.ref f) (.ref y)):=x;show h'.get? a=some (B0a (.ref f) (.ref y));exact k a _ (.inl rfl) e
 | ext φ=>obtain⟨p,⟨o,e⟩,st⟩:=x;exact⟨st _ _ p fun o q=>k _ _ (.inl rfl) q,⟨o,k _ _ (.inl rfl) e⟩,st⟩
theorem HOk.lt (x:HOk P w H h)(e:H a=some o):a<h.objs.size:=(x a o e).lt
theorem HOk.fresh (x:HOk P w H h)(e:h.objs.size<=a):H a=none:=by
 cases q:H a with
 | none=>rfl
 | some u=>exact absurd (A0g (x.lt q) e) (A2v _)
theorem HOk.kept (x:HOk P w H h)(k:∀b u,h.get? b=some u->h'.get? b=some u):HOk P w H h':=fun a o e=>
 (x a o e).stay (fun b u _ q=>k b u q) (fun _ q=>q) fun _ _ q=>q
theorem HOk.laid (x:HOk P w H h)(k:∀b u,h.get? b=some u->h'.get? b=some u)(hp:h.objs.size<=a)(new:a5g P w (upd H a o) h' a o):HOk P w (upd H a o) h':=fun b u e=>by
 have hn:=x.fresh hp
 by_cases hb:b=a
 ·subst hb;rw[a0b] at e;cases e;exact new
 ·rw[a0q hb] at e;exact(x b u e).stay (fun c v _ q=>k c v q) (fun c q=>by rw[a0q (a0p q hn)];exact q) fun c xs q=>by rw[a0q (a0p q hn)];exact q
end
def Rd (H:Hp)(a:Addr)(u:HO):Prop:=H a=some u\/∃o,H a=some (.frz o u)
theorem Rd.ok {w:World}{H:Hp}{u:HO}(r:Rd H a u)(x:HOk P w H h):a5g P w H h a u:=by
 rcases r with r|⟨o,r⟩
 ·exact x a u r
 ·obtain⟨_,q⟩:=x a _ r;exact q
def Mut:Option HO->Prop
 | some (.lst _)=>True
 | some (.dK _)=>True
 | some (.dT _)=>True
 | some (.set _ _)=>True
 | some (.ins _ _ _)=>True
 | some (.ext _)=>True
 | _=>False
section
variable {P:Program}{w:World}{H:Hp}{h h':Heap}{x e:Addr}{o':HO}
theorem HOk.write (ok:HOk P w H h)(mu:Mut (H x))(he:e=x\/H e=some (.own x))(k:∀b u,b≠e->h.get? b=some u->h'.get? b=some u)(heo:∃u,h'.get? e=some u)
  (new:a5g P w (upd H x o') h' x o'):HOk P w (upd H x o') h':=fun b u q=>by
 have nown:∀c y,H c=some (.own y)->c≠x:=fun c y r z=>by subst z;rw[r] at mu;exact mu
 have ntup:∀c xs,H c=some (.tup xs)->c≠x:=fun c xs r z=>by subst z;rw[r] at mu;exact mu
 by_cases hb:b=x
 ·subst hb;rw[a0b] at q;cases q;exact new
 ·rw[a0q hb] at q
  by_cases hbe:b=e
  ·have q':H b=some (.own x):=by
    rcases he with z|z
    ·exact absurd (hbe.trans z) hb
    ·rw[hbe];exact z
   rw[q] at q';cases q';obtain⟨v,hv⟩:=heo;exact⟨v,by rw[hbe];exact hv⟩
  ·refine(ok b u q).stay (fun c v hc r=>k c v ?_ r) (fun c r=>by rw[a0q (nown c b r)];exact r) fun c xs r=>by rw[a0q (ntup c xs r)];exact r
   rcases hc with rfl|hc
   ·exact hbe
   ·rintro rfl
    rcases he with z|z
    ·exact nown c b hc z
    ·rw[hc] at z;cases z;exact hb rfl
end
structure Un (fs ex:List Addr)(H H':Hp)(h h':Heap):Prop where
 keep:∀b o,h.get? b=some o->H b=none->b∉fs->b∉ex->h'.get? b=some o
 slot:∀b o,h.get? b=some o->H b=none->b∈fs->b∉ex->∃sl,h'.get? b=some { o with slots:=sl }
 free:∀b o,h.get? b=some o->H b=none->b∉ex->H' b=none
 there:∀b o,h.get? b=some o->b∉ex->∃o',h'.get? b=some o'
 tups:∀b xs,H b=some (.tup xs)->H' b=some (.tup xs)
 frzs:∀b o u,H b=some (.frz o u)->H' b=some (.frz o u)
 tbls:∀b ps,H b=some (.tbl ps)->∃more,H' b=some (.tbl (ps++more))
section
variable {fs fs' ex ex':List Addr}{H H1 H2:Hp}{h h1 h2 h':Heap}{a x e:Addr}{o:HO}
theorem Un.any (u:Un fs ex H H1 h h1){ob:Obj}(q:h.get? b=some ob)(n:H b=none)(hx:b∉ex):∃sl,h1.get? b=some { ob with slots:=sl }:=by
 by_cases hb:b∈fs
 ·exact u.slot b ob q n hb hx
 ·exact⟨ob.slots,u.keep b ob q n hb hx⟩
theorem Un.kept (k:∀b u,h.get? b=some u->h'.get? b=some u):Un fs ex H H h h':=
 ⟨fun b ob q _ _ _=>k b ob q,fun b ob q _ _ _=>⟨ob.slots,k b ob q⟩,fun _ _ _ n _=>n,fun b ob q _=>⟨ob,k b ob q⟩,fun _ _ q=>q,fun _ _ _ q=>q,fun _ ps q=>⟨#[],by rw[q];simp⟩⟩
theorem Un.refl:Un fs ex H H h h:=Un.kept fun _ _ q=>q
theorem Un.laid (k:∀b u,h.get? b=some u->h'.get? b=some u)(hp:h.objs.size<=a)(hn:H a=none):Un fs ex H (upd H a o) h h' where
 keep:=fun b u q _ _ _=>k b u q
 slot:=fun b u q _ _ _=>⟨u.slots,k b u q⟩
 free:=fun b u q n _=>by rw[a0q (A1j (A0g (A0n q) hp))];exact n
 there:=fun b u q _=>⟨u,k b u q⟩
 tups:=fun b xs q=>by rw[a0q (a0p q hn)];exact q
 frzs:=fun b u xs q=>by rw[a0q (a0p q hn)];exact q
 tbls:=fun b ps q=>⟨#[],by rw[a0q (a0p q hn),q];simp⟩
theorem Un.write (mu:Mut (H x))(he:e=x\/H e=some (.own x))(k:∀b u,b≠e->h.get? b=some u->h'.get? b=some u)(heo:∃u,h'.get? e=some u):Un fs ex H (upd H x o) h h':=by
 have hx:∀b,H b=none->b≠x:=fun b n z=>by subst z;rw[n] at mu;exact mu
 have hb:∀b,H b=none->b≠e:=fun b n z=>by
  subst z
  rcases he with r|r
  ·exact hx b n r
  ·rw[n] at r;cases r
 have hm:∀b u,H b=some u->¬Mut (some u)->b≠x:=fun b u q nm z=>by subst z;rw[q] at mu;exact nm mu
 refine⟨fun b u q n _ _=>k b u (hb b n) q,fun b u q n _ _=>⟨u.slots,k b u (hb b n) q⟩,fun b u q n _=>by rw[a0q (hx b n)];exact n,fun b u q _=>?_,
  fun b xs q=>by rw[a0q (hm b _ q fun z=>z)];exact q,fun b u xs q=>by rw[a0q (hm b _ q fun z=>z)];exact q,fun b ps q=>⟨#[],by rw[a0q (hm b _ q fun z=>z),q];simp⟩⟩
 by_cases hbe:b=e
 ·subst hbe;exact heo
 ·exact⟨u,k b u hbe q⟩
end
def trk (h:Heap)(H:Hp):List Addr:=(A5d h.objs.size).filter fun a=>(H a).isSome
def hidT (h:Heap)(H:Hp):Heap:=PySem.W.hideAll h (trk h H)
theorem hidT_size (h:Heap)(H:Hp):(hidT h H).objs.size=h.objs.size:=PySem.W.hideAll_size _ _
theorem hidT_get {H:Hp}(e:h.get? b=some o)(n:H b=none):(hidT h H).get? b=some o:=
 PySem.W.hideAll_get _ e fun hm=>by
  have q:(H b).isSome=true:=(List.mem_filter.mp hm).2;rw[n] at q;simp at q
theorem of_hidT {H:Hp}(e:(hidT h H).get? b=some o):h.get? b=some o/\H b=none:=by
 have e':h.get? b=some o:=PySem.W.of_hideAll (trk h H) e;refine⟨e',?_⟩
 cases q:H b with
 | none=>rfl
 | some x=>
  have hm:b∈trk h H:=List.mem_filter.mpr ⟨List.mem_range.mpr (A0n e'),by simp[q]⟩;have z:(hidT h H).get? b=none:=PySem.W.hideAll_none (trk h H) hm;rw[z] at e;cases e
def allNews (g h:Heap)(L:Addr):List (Addr×Obj):=(A5d h.objs.size).filterMap fun a=>if a=L\/(g.get? a).isSome=true then none else (h.get? a).map fun o=>(a,o)
def rest (g h:Heap)(L d:Addr):List (Addr×Obj):=(allNews g h L).filter fun p=>decide (p.1≠d)
structure Mod (K:A0a)(mg:Str->Option Value)(base:Heap):Prop where
 kin:K.In base
 glob:base.Ns mainGlobals mg
 blt:∃mb,base.Ns builtinsNs mb/\∀x:Str,x ≠ "__name__"->mb x=bootBuiltins x
 nolimit:base.NoLimit
structure Cx where
 prog:Program
 w:World
 K:A0a
 mg:Str->Option Value
 base:Heap
 A:Around
 N:List Str
 s₀:Shared
 H₀:Hp
 env:Env
 outer:List Env
 stack:List Env
 ex:List Addr
 fn:Str->Bool
 calm:Bool
 pn:List (Addr×Obj)
 xe:Value->Shared->Prop
def frs (l:List Env):List Addr:=l.filterMap (·.frame)
abbrev Cx.fs (X:Cx):List Addr:=frs X.outer
def Vis (sc:Scope)(x:Str):Prop:=sc.names.lookup x=some .local\/sc.names.lookup x=some .cell\/sc.names.lookup x=some .free
def Loc (sc:Scope)(x:Str):Prop:=sc.names.lookup x=some .local\/sc.names.lookup x=some .cell
def Look (env:Env)(h:Heap)(m:Str->Option Value)(x:Str)(u:Value):Prop:=
 (env.kindOf x=some .local/\m x=some u)\/((env.kindOf x=some .cell\/env.kindOf x=some .free)/\∃c,env.cells.lookup x=some c/\h.IsCell c (some u))
structure Cx.Ok (X:Cx):Prop where
 mod:Mod X.K X.mg X.base
 kind:X.env.scope.kind=.function
 glob:X.env.globals=mainGlobals
 blt:X.env.builtins=builtinsNs
 above:X.s₀.heap.objs.size<=X.env.locals
 inj:∀x y c,X.env.cells.lookup x=some c->X.env.cells.lookup y=some c->x=y
 has:∀x,(X.env.kindOf x=some .cell\/X.env.kindOf x=some .free)->∃c,X.env.cells.lookup x=some c
 cab:∀x c,X.fn x=true->X.env.cells.lookup x=some c->X.s₀.heap.objs.size<=c
 hd:X.calm=true->X.A.handled=none
 frames:X.A.frames=some X.stack
 stk:X.stack=X.outer\/(X.stack=X.env::X.outer/\X.env.frame=some X.env.locals)
 exf:∀b∈X.ex,b≠X.env.locals/\∀x c,X.env.cells.lookup x=some c->c≠b
 bs:∀b o,X.base.get? b=some o->X.s₀.heap.get? b=some o/\X.H₀ b=none
 bsz:X.base.objs.size<=X.s₀.heap.objs.size
 noex:∀b o,X.base.get? b=some o->b∉X.ex
 exfs:∀b∈X.ex,b∉X.fs
 funs:X.s₀.heap.FunFrames X.base X.outer
 frf:∀b∈X.fs,X.H₀ b=none
structure Inv (X:Cx)(pins:List (Addr×Obj))(σ:List (Option V))(H:Hp)(s:Shared):Prop where
 ok:X.Ok
 os:s.os=X.s₀.os
 bare:AllBare s.gens
 base:Un X.fs X.ex X.H₀ H X.s₀.heap s.heap
 loc:∃m,s.heap.Ns X.env.locals m/\∀(i:Nat) (x:Str) (v:V),X.N[i]? = some x->σ[i]? = some (some v)->Vis X.env.scope x->∃u,a4s v u/\Look X.env s.heap m x u
 cell:∀x c,X.env.cells.lookup x=some c->∃v,s.heap.IsCell c v
 free:H X.env.locals=none
 freeC:∀x c,X.env.cells.lookup x=some c->H c=none
 pin:∀p∈X.pn++pins,s.heap.get? p.1=some p.2/\H p.1=none/\p.1≠X.env.locals/\p.1∉X.fs/\∀v,p.2.data≠.cell v
 hok:HOk X.prog X.w H s.heap
 len:σ.length=X.N.length
section
variable {X:Cx}{pins:List (Addr×Obj)}{σ:List (Option V)}{H H':Hp}{s:Shared}{h':Heap}
theorem Cx.Ok.nofr (ok:X.Ok)(e:X.base.get? b=some o):b∉X.fs:=fun hb=>by
 have:=(ok.funs.mem hb).1;rw[e] at this;cases this
theorem Inv.bs (I:Inv X pins σ H s):∀b o,X.base.get? b=some o->s.heap.get? b=some o/\H b=none:=fun b o e=>
 ⟨I.base.keep b o (I.ok.bs b o e).1 (I.ok.bs b o e).2 (I.ok.nofr e) (I.ok.noex b o e),I.base.free b o (I.ok.bs b o e).1 (I.ok.bs b o e).2 (I.ok.noex b o e)⟩
theorem Inv.bk (I:Inv X pins σ H s):∀b o,X.base.get? b=some o->s.heap.get? b=some o:=fun b o e=>(I.bs b o e).1
theorem Inv.mod (I:Inv X pins σ H s):Mod X.K X.mg X.base:=I.ok.mod
theorem Inv.kIn (I:Inv X pins σ H s):X.K.In s.heap:=I.ok.mod.kin.keeps I.bk
theorem Inv.lt (I:Inv X pins σ H s):X.env.locals<s.heap.objs.size:=let ⟨_,hn,_⟩:=I.loc;hn.lt
theorem Inv.sz (I:Inv X pins σ H s):X.s₀.heap.objs.size<=s.heap.objs.size:=A0y I.ok.above (A4h I.lt)
theorem Inv.nofs (I:Inv X pins σ H s)(h:s.heap.objs.size<=a):a∉X.fs:=fun hb=>by
 obtain⟨_,o,ho,_⟩:=I.ok.funs.mem hb;exact absurd (A0g (A0n ho) (A0y I.sz h)) (A2v _)
theorem Inv.cne (I:Inv X pins σ H s):∀x c,X.env.cells.lookup x=some c->c≠X.env.locals:=fun x c e z=>by
 obtain⟨v,o,ho,hd⟩:=I.cell x c e;obtain⟨m,⟨o',es,ep,ho',hd',_⟩,_⟩:=I.loc;rw[z,ho'] at ho;cases ho;rw[hd'] at hd;cases hd
theorem Inv.funs (I:Inv X pins σ H s):s.heap.FunFrames X.base X.outer:=by
 have all:∀(l:List Env),(∀b∈frs l,b∈X.fs)->X.s₀.heap.FunFrames X.base l->s.heap.FunFrames X.base l:=by
  intro l
  induction l with
  | nil=>intro _ _;trivial
  | cons env r ih=>
   intro hs hl;obtain⟨hk,⟨L,o,hf,hn,ho,hd⟩,hr⟩:=hl;have hL:L∈X.fs:=hs L (by unfold frs;rw[A8h,hf];exact A0k);obtain⟨sl,e⟩:=I.base.slot L o ho (I.ok.frf L hL) hL fun z=>I.ok.exfs L z hL;exact⟨hk,⟨L,_,hf,hn,e,hd⟩,ih (fun b hb=>hs b (by unfold frs;rw[A8h,hf];exact A0d _ hb)) hr⟩
 exact all X.outer (fun _ hb=>hb) I.ok.funs
theorem Inv.stack (I:Inv X pins σ H s):s.heap.FunFrames X.base X.stack:=by
 rcases I.ok.stk with e|⟨e,hf⟩
 ·rw[e];exact I.funs
 ·rw[e];obtain⟨m,hn,_⟩:=I.loc;refine .cons (by rw[I.ok.kind];decide) hf hn ?_ I.funs;exact Heap.get?_none_of_le (A0y I.ok.bsz I.ok.above)
theorem Inv.stkSub (I:Inv X pins σ H s):∀b∈frs X.stack,b∈X.env.locals::X.fs:=fun b hb=>by
 rcases I.ok.stk with e|⟨e,hf⟩
 ·rw[e] at hb;exact A0d _ hb
 ·rw[e] at hb;unfold frs at hb;rw[A8h,hf] at hb;exact hb
theorem Inv.stkFree (I:Inv X pins σ H s):∀b∈frs X.stack,H b=none:=fun b hb=>by
 rcases List.mem_cons.mp (I.stkSub b hb) with e|hb
 ·rw[e];exact I.free
 ·obtain⟨_,o,ho,_⟩:=I.ok.funs.mem hb;exact I.base.free b o ho (I.ok.frf b hb) fun z=>I.ok.exfs b z hb
theorem Inv.step {g':Array GenState}{t':Nat}{d':Drawn}(I:Inv X pins σ H s)
  (hch:∀b∈ch,(b∈X.ex\/X.s₀.heap.objs.size<=b)/\b≠X.env.locals/\(∀x c,X.env.cells.lookup x=some c->c≠b)/\∀p∈X.pn++pins,p.1≠b)
  (keep:∀b o,b≠X.env.locals->b∉X.fs->b∉ch->s.heap.get? b=some o->H b=none->h'.get? b=some o)
  (slot:∀b o,b≠X.env.locals->b∈X.fs->b∉ch->s.heap.get? b=some o->H b=none->∃sl,h'.get? b=some { o with slots:=sl }) (free:∀b o,b∉ch->s.heap.get? b=some o->H b=none->H' b=none)
  (there:∀b o,b∉ch->s.heap.get? b=some o->∃o',h'.get? b=some o')
  (tups:∀b xs,H b=some (.tup xs)->H' b=some (.tup xs)) (frzs:∀b o u,H b=some (.frz o u)->H' b=some (.frz o u)) (tbls:∀b ps,H b=some (.tbl ps)->∃more,H' b=some (.tbl (ps++more)))
  (ns:∀m,s.heap.Ns X.env.locals m->h'.Ns X.env.locals m) (hok:HOk X.prog X.w H' h') (hg:AllBare g') :
  Inv X pins σ H' { s with heap:=h',gens:=g',drawn:=d',toks:=t' }:=by
 have neL:∀b o,X.s₀.heap.get? b=some o->b≠X.env.locals:=fun b o e=>A1j (A0g (A0n e) I.ok.above)
 have neC:∀b o,X.s₀.heap.get? b=some o->b∉X.ex->b∉ch:=fun b o e hx hb=>by
  rcases (hch b hb).1 with z|z
  ·exact hx z
  ·exact absurd (A0g (A0n e) z) (A2v _)
 have cellK:∀x c,X.env.cells.lookup x=some c->∀v,s.heap.IsCell c v->h'.IsCell c v:=fun x c e v ⟨o,ho,hd⟩=>by
  have nch:c∉ch:=fun z=>(hch c z).2.2.1 x c e rfl
  by_cases hc:c∈X.fs
  ·obtain⟨sl,q⟩:=slot c o (I.cne x c e) hc nch ho (I.freeC x c e);exact⟨_,q,hd⟩
  ·exact⟨o,keep c o (I.cne x c e) hc nch ho (I.freeC x c e),hd⟩
 refine⟨I.ok,I.os,hg,⟨fun b o e n hb hx=>?_,fun b o e n hb hx=>?_,fun b o e n hx=>?_,fun b o e hx=>?_,fun b xs e=>tups b xs (I.base.tups b xs e),fun b o xs e=>frzs b o xs (I.base.frzs b o xs e),fun b ps e=>?_⟩,?_,fun x c e=>?_,?_,fun x c e=>?_,fun p hp=>?_,hok,I.len⟩
 ·exact keep b o (neL b o e) hb (neC b o e hx) (I.base.keep b o e n hb hx) (I.base.free b o e n hx)
 ·obtain⟨sl,e1⟩:=I.base.slot b o e n hb hx;obtain⟨sl',e2⟩:=slot b _ (neL b o e) hb (neC b o e hx) e1 (I.base.free b o e n hx);exact⟨sl',e2⟩
 ·obtain⟨o',e1⟩:=I.base.there b o e hx;exact free b o' (neC b o e hx) e1 (I.base.free b o e n hx)
 ·obtain⟨o',e1⟩:=I.base.there b o e hx;exact there b o' (neC b o e hx) e1
 ·obtain⟨m1,e1⟩:=I.base.tbls b ps e;obtain⟨m2,e2⟩:=tbls b _ e1;exact⟨m1++m2,by rw[e2,Array.append_assoc]⟩
 ·obtain⟨m,hn,hl⟩:=I.loc;refine⟨m,ns m hn,fun i x v e1 e2 e3=>?_⟩;obtain⟨u,r,l⟩:=hl i x v e1 e2 e3;refine⟨u,r,?_⟩
  rcases l with l|⟨k,c,e,z⟩
  ·exact .inl l
  ·exact .inr ⟨k,c,e,cellK x c e _ z⟩
 ·obtain⟨v,z⟩:=I.cell x c e;exact⟨v,cellK x c e v z⟩
 ·obtain⟨m,⟨o,_,_,ho,_⟩,_⟩:=I.loc;exact free _ o (fun z=>(hch _ z).2.1 rfl) ho I.free
 ·obtain⟨v,o,ho,hd⟩:=I.cell x c e;exact free c o (fun z=>(hch c z).2.2.1 x c e rfl) ho (I.freeC x c e)
 ·obtain⟨e,n,ne,nf,d⟩:=I.pin p hp;have nch:p.1∉ch:=fun z=>(hch p.1 z).2.2.2 p hp rfl;exact⟨keep p.1 p.2 ne nf nch e n,free p.1 p.2 nch e n,ne,nf,d⟩
theorem Inv.un (I:Inv X pins σ H s)(u:Un X.fs [] H H' s.heap h')(hok:HOk X.prog X.w H' h'):Inv X pins σ H' { s with heap:=h',toks:=t' }:=by
 obtain⟨m,⟨o,es,ep,ho,r⟩,_⟩:=id I.loc;obtain⟨sl,hL⟩:=u.any ho I.free (by simp)
 exact I.step (g':=s.gens) (d':=s.drawn) (ch:=[]) (fun _ z=>nomatch z) (fun b o _ hb _ e n=>u.keep b o e n hb (by simp)) (fun b o _ hb _ e n=>u.slot b o e n hb (by simp)) (fun b o _ e n=>u.free b o e n (by simp)) (fun b o _ e=>u.there b o e (by simp)) u.tups u.frzs u.tbls (fun m' hm=>by
  obtain⟨o',es',ep',ho',r'⟩:=hm;rw[ho] at ho';cases ho'
  exact⟨_,es',ep',hL,r'⟩) hok I.bare
theorem Inv.call (I:Inv X pins σ H s)(u:Un (frs X.stack) ch H H' s.heap h')(hok:HOk X.prog X.w H' h')(hg:AllBare g')
  (hch:∀b∈ch,(b∈X.ex\/X.s₀.heap.objs.size<=b)/\b≠X.env.locals/\(∀x c,X.env.cells.lookup x=some c->c≠b)/\∀p∈X.pn++pins,p.1≠b) :
  Inv X pins σ H' { s with heap:=h',gens:=g',drawn:=d',toks:=t' }:=by
 obtain⟨m,⟨o,es,ep,ho,r⟩,_⟩:=id I.loc;obtain⟨sl,hL⟩:=u.any ho I.free fun z=>(hch _ z).2.1 rfl
 exact I.step (ch:=ch) hch (fun b o hL hb hc e n=>u.keep b o e n (fun z=>(List.mem_cons.mp (I.stkSub b z)).elim hL hb) hc) (fun b o _ _ hc e n=>u.any e n hc) (fun b o hc e n=>u.free b o e n hc) (fun b o hc e=>u.there b o e hc) u.tups u.frzs u.tbls (fun m' hm=>by
  obtain⟨o',es',ep',ho',r'⟩:=hm;rw[ho] at ho';cases ho'
  exact⟨_,es',ep',hL,r'⟩) hok hg
theorem Inv.turned (I:Inv X pins σ H s)(k:∀b o,b≠it->s.heap.get? b=some o->h'.get? b=some o)(hn:H it=none)(hL:it≠X.env.locals)
  (h1:it∈X.ex\/X.s₀.heap.objs.size<=it) (h2:∀x c,X.env.cells.lookup x=some c->c≠it) (h3:∀p∈X.pn++pins,p.1≠it):Inv X pins σ H { s with heap:=h',toks:=t' }:=by
 have nit:∀b u,H b=some u->b≠it:=fun b u e z=>by rw[z,hn] at e;cases e
 refine I.step (g':=s.gens) (d':=s.drawn) (ch:=[it]) (fun b hb=>?_) (fun b o _ _ hc e _=>k b o (fun z=>hc (by simp[z])) e) (fun b o _ _ hc e _=>⟨o.slots,k b o (fun z=>hc (by simp[z])) e⟩) (fun _ _ _ _ n=>n)
  (fun b o hc e=>⟨o,k b o (fun z=>hc (by simp[z])) e⟩) (fun _ _ e=>e) (fun _ _ _ e=>e) (fun b ps e=>⟨#[],by rw[e];simp⟩) (fun m hm=>?_) (fun b u e=>?_) I.bare
 ·have e:b=it:=by simpa using hb
  subst e;exact⟨h1,hL,h2,h3⟩
 ·obtain⟨o,es,ep,ho,r⟩:=hm;exact⟨o,es,ep,k _ o (A1e hL) ho,r⟩
 ·refine(I.hok b u e).stay (fun c v hc q=>k c v ?_ q) (fun _ q=>q) fun _ _ q=>q
  rcases hc with z|z
  ·rw[z];exact nit b u e
  ·exact nit c _ z
theorem Inv.tok (I:Inv X pins σ H s)(t:Nat):Inv X pins σ H { s with toks:=t }:=I.un (h':=s.heap) (t':=t) Un.refl I.hok
theorem Inv.kept {t':Nat}(I:Inv X pins σ H s)(k:∀b u,s.heap.get? b=some u->h'.get? b=some u):Inv X pins σ H { s with heap:=h',toks:=t' }:=I.un (Un.kept k) (I.hok.kept k)
theorem Inv.laid {a:Addr}{o:HO}{t':Nat}(I:Inv X pins σ H s)(k:∀b u,s.heap.get? b=some u->h'.get? b=some u)(hp:s.heap.objs.size<=a)(new:a5g X.prog X.w (upd H a o) h' a o) :
  Inv X pins σ (upd H a o) { s with heap:=h',toks:=t' }:=I.un (Un.laid k hp (I.hok.fresh hp)) (I.hok.laid k hp new)
theorem Inv.write {x e:Addr}{o:HO}{t':Nat}(I:Inv X pins σ H s)(mu:Mut (H x))(he:e=x\/H e=some (.own x))(k:∀b u,b≠e->s.heap.get? b=some u->h'.get? b=some u)(heo:∃u,h'.get? e=some u)
  (new:a5g X.prog X.w (upd H x o) h' x o):Inv X pins σ (upd H x o) { s with heap:=h',toks:=t' }:=I.un (Un.write mu he k heo) (I.hok.write mu he k heo new)
theorem Inv.pins_of {pins':List (Addr×Obj)}(I:Inv X pins σ H s)(h:∀p∈pins',s.heap.get? p.1=some p.2/\H p.1=none/\p.1≠X.env.locals/\p.1∉X.fs/\∀v,p.2.data≠.cell v):Inv X pins' σ H s:=
 ⟨I.ok,I.os,I.bare,I.base,I.loc,I.cell,I.free,I.freeC,fun p hp=>(List.mem_append.mp hp).elim (fun z=>I.pin p (A6a _ z)) (h p),I.hok,I.len⟩
theorem nodup_ix (hN:N.Nodup)(a:N[i]? = some x)(b:N[j]? = some x):i=j:=by
 obtain⟨h1,e1⟩:=List.getElem?_eq_some_iff.mp a;obtain⟨h2,e2⟩:=List.getElem?_eq_some_iff.mp b;exact(B0y hN).mp (e1.trans e2.symm)
theorem c7g {E:Value->Shared->Prop}{v:V}{Q:Unit->Shared->Prop}(I:Inv X pins σ H s)(hN:X.N.Nodup)(hi:X.N[i]? = some x)(hx:Loc X.env.scope x)(r:a4s v u)
  (h:∀s',Inv X pins (σ.set i (some v)) H s'->(∃a,A9d a s.heap s'.heap/\(a=X.env.locals\/X.env.cells.lookup x=some a))->Q () s') (hf:X.fn x=true\/X.env.scope.names.lookup x=some .local:=by first|exact .inl rfl|exact .inr rfl|assumption):wpAny M A (storeName X.env x u) Q E s:=by
 obtain⟨m,hn,hl⟩:=id I.loc;have hcls:(X.env.scope.kind==.class||(X.env.scope.kind==.module&&X.env.locals != X.env.globals))=false:=by rw[I.ok.kind];rfl
 have hiσ:i<σ.length:=by rw[I.len];exact(List.getElem?_eq_some_iff.mp hi).1
 have cne:=I.cne
 have tracked:∀{a:Addr} {h':Heap},(∃o,s.heap.get? a=some o/\H a=none)->A9d a s.heap h'->HOk X.prog X.w H h':=fun {a h'} ha hs b ob e=>by
  obtain⟨_,_,hfree⟩:=ha;refine(I.hok b ob e).stay (fun c w' hc q=>(hs.2 c ?_).trans q) (fun _ q=>q) fun _ _ q=>q;rintro rfl
  rcases hc with rfl|hc
  ·rw[hfree] at e;cases e
  ·rw[hfree] at hc;cases hc
 rcases hx with hk|hk
 ·refine wpAny_storeName_local hk hn (fun h' hn' hs=>?_) hcls;obtain⟨oL,_,_,hoL,_⟩:=id hn;refine h _ ⟨I.ok,I.os,I.bare,⟨fun b o e n hb hx=>?_,fun b o e n hb hx=>?_,I.base.free,fun b o e hx=>?_,I.base.tups,I.base.frzs,I.base.tbls⟩,⟨_,hn',fun j y v' e1 e2 e3=>?_⟩,fun y c e=>?_,I.free,I.freeC,fun p hp=>?_,tracked ⟨oL,hoL,I.free⟩ hs,by simpa using I.len⟩ ⟨_,hs,.inl rfl⟩
  ·exact(hs.2 b (A1j (A0g (A0n e) I.ok.above))).trans (I.base.keep b o e n hb hx)
  ·obtain⟨sl,e1⟩:=I.base.slot b o e n hb hx;exact⟨sl,(hs.2 b (A1j (A0g (A0n e) I.ok.above))).trans e1⟩
  ·obtain⟨o',e1⟩:=I.base.there b o e hx;exact⟨o',(hs.2 b (A1j (A0g (A0n e) I.ok.above))).trans e1⟩
  ·by_cases hj:j=i
   ·subst hj;rw[hi] at e1;cases e1;rw[List.getElem?_set_self hiσ] at e2;cases e2;exact⟨u,r,.inl ⟨hk,by simp⟩⟩
   ·rw[List.getElem?_set_ne (A1e hj)] at e2;obtain⟨u',r',q⟩:=hl j y v' e1 e2 e3;refine⟨u',r',?_⟩
    rcases q with ⟨k,e⟩|⟨k,c,e,z⟩
    ·refine .inl ⟨k,?_⟩;have:y≠x:=fun e=>hj (nodup_ix hN e1 (e▸hi));simp[this,e]
    ·exact .inr ⟨k,c,e,z.sameBut hs (cne y c e)⟩
  ·obtain⟨w',z⟩:=I.cell y c e;exact⟨w',z.sameBut hs (cne y c e)⟩
  ·obtain⟨e,n,ne,nf,d⟩:=I.pin p hp;exact⟨(hs.2 p.1 ne).trans e,n,ne,nf,d⟩
 ·have hfn:X.fn x=true:=by
   rcases hf with z|z
   ·exact z
   ·rw[z] at hk;cases hk
  obtain⟨c,hc⟩:=I.ok.has x (.inl hk);obtain⟨w',z⟩:=I.cell x c hc;refine wpAny_storeName_cell I.ok.kind hk hc z (fun h' hc' hs=>?_);obtain⟨oc,hoc,hocd⟩:=id z;refine h { s with heap:=h' } ⟨I.ok,I.os,I.bare,⟨fun b o e n hb hx=>?_,fun b o e n hb hx=>?_,I.base.free,fun b o e hx=>?_,I.base.tups,I.base.frzs,I.base.tbls⟩,⟨m,hn.sameBut hs (A1e (cne x c hc)),fun j y v' e1 e2 e3=>?_⟩,fun y c' e=>?_,I.free,I.freeC,fun p hp=>?_,tracked ⟨oc,hoc,I.freeC x c hc⟩ hs,by simpa using I.len⟩ ⟨c,hs,.inr hc⟩
  ·exact(hs.2 b (A1j (A0g (A0n e) (I.ok.cab x c hfn hc)))).trans (I.base.keep b o e n hb hx)
  ·obtain⟨sl,e1⟩:=I.base.slot b o e n hb hx;exact⟨sl,(hs.2 b (A1j (A0g (A0n e) (I.ok.cab x c hfn hc)))).trans e1⟩
  ·obtain⟨o',e1⟩:=I.base.there b o e hx;exact⟨o',(hs.2 b (A1j (A0g (A0n e) (I.ok.cab x c hfn hc)))).trans e1⟩
  ·by_cases hj:j=i
   ·subst hj;rw[hi] at e1;cases e1;rw[List.getElem?_set_self hiσ] at e2;cases e2;exact⟨u,r,.inr ⟨.inl hk,c,hc,hc'⟩⟩
   ·rw[List.getElem?_set_ne (A1e hj)] at e2;obtain⟨u',r',q⟩:=hl j y v' e1 e2 e3;refine⟨u',r',?_⟩
    rcases q with q|⟨k,c',e,z'⟩
    ·exact .inl q
    ·refine .inr ⟨k,c',e,z'.sameBut hs ?_⟩;rintro rfl;exact hj (nodup_ix hN e1 (I.ok.inj _ _ _ e hc▸hi))
  ·by_cases hcc:c'=c
   ·subst hcc;exact⟨_,hc'⟩
   ·obtain⟨w2,z2⟩:=I.cell y c' e;exact⟨w2,z2.sameBut hs hcc⟩
  ·obtain⟨e,n,ne,nf,d⟩:=I.pin p hp;refine⟨(hs.2 p.1 ?_).trans e,n,ne,nf,d⟩;intro q;rw[q,hoc] at e;have q':oc=p.2:=A0j e;exact d w' (by rw[<- q'];exact hocd)
theorem c5y {E:Value->Shared->Prop}{v:V}{Q:Unit->Shared->Prop}(I:Inv X pins σ H s)(hN:X.N.Nodup)(hi:X.N[i]? = some x)(hx:Loc X.env.scope x)(r:a4s v u)
  (h:∀s',Inv X pins (σ.set i (some v)) H s'->Q () s') (hf:X.fn x=true\/X.env.scope.names.lookup x=some .local:=by first|exact .inl rfl|exact .inr rfl|assumption):wpAny M A (storeName X.env x u) Q E s:=
 c7g I hN hi hx r (fun s' I' _=>h s' I') hf
theorem Inv.call' {s':Shared}(I:Inv X pins σ H s)(ho:s'.os=s.os)(u:Un (frs X.stack) ch H H' s.heap s'.heap)(hok:HOk X.prog X.w H' s'.heap)(hg:AllBare s'.gens)
  (hch:∀b∈ch,(b∈X.ex\/X.s₀.heap.objs.size<=b)/\b≠X.env.locals/\(∀x c,X.env.cells.lookup x=some c->c≠b)/\∀p∈X.pn++pins,p.1≠b):Inv X pins σ H' s':=by
 obtain⟨h',g',d',t',o'⟩:=s';have e:o'=s.os:=ho;subst e;exact I.call (g':=g') (t':=t') (d':=d') u hok hg hch
end
abbrev XK:=Value->Option Addr->Hp->Prop
abbrev St:=List (Option V)
abbrev VK:=V->Hp->Prop
abbrev TE:=St->Hp->VK->Prop
abbrev TT:=St->Hp->(Bool->Hp->Prop)->Prop
abbrev TA:=St->Hp->(List V->Hp->Prop)->Prop
structure c1z where
 nx:St->Hp->Prop
 rt:VK
 bk:St->Hp->Prop:=fun _ _=>False
 ct:St->Hp->Prop:=fun _ _=>False
abbrev TS:=c1z->St->Hp->Prop
def EP (X:Cx)(pins:List (Addr×Obj))(σ:St)(Q:VK)(u:Value)(s':Shared):Prop:=∃v H',Inv X pins σ H' s'/\a4s v u/\Q v H'
def TP (X:Cx)(pins:List (Addr×Obj))(σ:St)(Q:Bool->Hp->Prop)(b:Bool)(s':Shared):Prop:=∃H',Inv X pins σ H' s'/\Q b H'
def AP (X:Cx)(pins:List (Addr×Obj))(σ:St)(Q:List V->Hp->Prop)(us:List Value)(s':Shared):Prop:=∃vs H',Inv X pins σ H' s'/\a5f vs us/\Q vs H'
def SP (X:Cx)(pins:List (Addr×Obj))(D:c1z)(f:Flow)(s':Shared):Prop:=
 match f with
 | .next=>∃σ' H',Inv X pins σ' H' s'/\D.nx σ' H'
 | .brk=>∃σ' H',Inv X pins σ' H' s'/\D.bk σ' H'
 | .cont=>∃σ' H',Inv X pins σ' H' s'/\D.ct σ' H'
 | .ret u=>∃v σ' H',Inv X pins σ' H' s'/\a4s v u/\D.rt v H'
def PE (X:Cx)(e:Expr)(t:TE):Prop:=
 ∀(pins:List (Addr×Obj)) (s:Shared) (σ:St) (H:Hp) (Q:VK),Inv X pins σ H s->t σ H Q->wpAny (model X.prog X.w) X.A (eval e X.env) (EP X pins σ Q) X.xe s
def PT (X:Cx)(e:Expr)(t:TT):Prop:=
 ∀(pins:List (Addr×Obj)) (s:Shared) (σ:St) (H:Hp) (Q:Bool->Hp->Prop),Inv X pins σ H s->t σ H Q->wpAny (model X.prog X.w) X.A (isTrue e X.env (eval e X.env)) (TP X pins σ Q) X.xe s
def PW (X:Cx)(e:Expr)(t:TT):Prop:=
 ∀(whole:Sem Value) (pins:List (Addr×Obj)) (s:Shared) (σ:St) (H:Hp) (Q:Bool->Hp->Prop),Inv X pins σ H s->t σ H Q->wpAny (model X.prog X.w) X.A (isTrue e X.env whole) (TP X pins σ Q) X.xe s
theorem PW.pt {X:Cx}{t:TT}(h:PW X e t):PT X e t:=h _
def PA (X:Cx)(es:List Expr)(t:TA):Prop:=
 ∀(pos:Pos) (pins:List (Addr×Obj)) (s:Shared) (σ:St) (H:Hp) (Q:List V->Hp->Prop),Inv X pins σ H s->t σ H Q->wpAny (model X.prog X.w) X.A (spliced (backTo pos (starEach es X.env))) (AP X pins σ Q) X.xe s
def PS (X:Cx)(st:Stmt)(t:TS):Prop:=
 ∀(pins:List (Addr×Obj)) (s:Shared) (σ:St) (H:Hp) (D:c1z),Inv X pins σ H s->t D σ H->wpAny (model X.prog X.w) X.A (exec st X.env) (SP X pins D) X.xe s
def PSs (X:Cx)(st:List Stmt)(t:TS):Prop:=
 ∀(pins:List (Addr×Obj)) (s:Shared) (σ:St) (H:Hp) (D:c1z),Inv X pins σ H s->t D σ H->wpAny (model X.prog X.w) X.A (execs st X.env) (SP X pins D) X.xe s
theorem thn {α:Type}{t:Sem α}{Q Q':α->Shared->Prop}{E:Value->Shared->Prop}(h:wpAny M A t Q E s)(hQ:∀a s,Q a s->Q' a s):wpAny M A t Q' E s:=A2m h hQ fun _ _ x=>x
section
variable {X:Cx}
def tVar (i:Nat):TE:=fun σ H Q=>∃v,σ[i]? = some (some v)/\Q v H
def tC (v:V):TE:=fun _ H Q=>Q v H
theorem pe_var (hN:X.N[i]? = some x)(hv:Vis X.env.scope x)(hd:(x==("__debug__":Str))=false:=by decide)(hcd:(x==("__classdict__":Str))=false:=by decide):PE X (.Name x pos) (tVar i):=by
 intro pins s σ H Q I h;obtain⟨v,e,h⟩:=h;obtain⟨m,hn,hl⟩:=I.loc;obtain⟨u,r,l⟩:=hl i x v hN e hv;have fin:EP X pins σ Q u s:=⟨v,H,I,r,h⟩
 rcases l with ⟨hk,hm⟩|⟨hk,c,hc,hcell⟩
 ·exact wpAny_Name (wpAny_loadName_local I.ok.kind hk hn hm fin) hd
 ·rcases hk with hk|hk
  ·exact wpAny_Name (wpAny_loadName_cell I.ok.kind hk hc hcell fin) hd
  ·exact wpAny_Name (wpAny_loadName_free I.ok.kind hk hc hcell fin hcd) hd
theorem a0k {i j pos}:PE X (.Constant (.int i) j pos) (tC (.int i)):=fun _ _ _ H _ I h=>wpAny_Constant_int ⟨.int i,H,I.tok _,⟨_,rfl⟩,h⟩
theorem pe_bl {b j pos}:PE X (.Constant (.bool b) j pos) (tC (.bl b)):=fun _ _ _ H _ I h=>Constant_bool ⟨.bl b,H,I,rfl,h⟩
theorem c3n {j pos}:PE X (.Constant .none j pos) (tC .non):=fun _ _ _ H _ I h=>Constant_none ⟨.non,H,I,rfl,h⟩
theorem a3m {x j pos}:PE X (.Constant (.str x) j pos) (tC (.str x)):=fun _ _ _ H _ I h=>Calls.Constant_str ⟨.str x,H,I.tok _,⟨_,rfl⟩,h⟩
def Gl (X:Cx)(x:Str):Prop:=X.env.kindOf x=some .globalImplicit
theorem c7q {E:Value->Shared->Prop}{σ:St}{H:Hp}{Q:Value->Shared->Prop}(I:Inv X pins σ H s)(hg:Gl X x)(hm:X.mg x=some u)(h:Q u s)
  (hd:(x==("__debug__":Str))=false:=by decide):wpAny (model X.prog X.w) X.A (eval (.Name x pos) X.env) Q E s:=
 A8z I.ok.kind hg (Calls.loadGlobal_global (by rw[I.ok.glob];exact I.mod.glob.keeps I.bk) hm h) hd
theorem ld_blt {E:Value->Shared->Prop}{σ:St}{H:Hp}{Q:Value->Shared->Prop}(I:Inv X pins σ H s)(hg:Gl X x)(hm:X.mg x=none)(hv:bootBuiltins x=some u)(h:Q u s)
  (hn:x ≠ "__name__":=by decide) (hd:(x==("__debug__":Str))=false:=by decide):wpAny (model X.prog X.w) X.A (eval (.Name x pos) X.env) Q E s:=by
 obtain⟨mb,h1,h2⟩:=I.mod.blt;exact A8z I.ok.kind hg (Calls.loadGlobal_builtin (by rw[I.ok.glob];exact I.mod.glob.keeps I.bk) hm (by rw[I.ok.blt];exact h1.keeps I.bk) ((h2 x hn).trans hv) h) hd
theorem pe_glob {v:V}(hg:Gl X x)(hm:X.mg x=some u)(r:a4s v u)(hd:(x==("__debug__":Str))=false:=by decide):PE X (.Name x pos) (tC v):=
 fun _ _ _ H _ I h=>c7q I hg hm ⟨v,H,I,r,h⟩ hd
theorem pe_bltn {v:V}(hg:Gl X x)(hm:X.mg x=none)(hv:bootBuiltins x=some u)(r:a4s v u)(hn:x ≠ "__name__":=by decide)(hd:(x==("__debug__":Str))=false:=by decide):PE X (.Name x pos) (tC v):=
 fun _ _ _ H _ I h=>ld_blt I hg hm hv ⟨v,H,I,r,h⟩ hn hd
variable {a b:Expr}{ta tb:TE}{pos:Pos}
def tB (t:TE):TT:=fun σ H Q=>t σ H fun x H1=>∃c,x=.bl c/\Q c H1
theorem b0h {t:TE}(h:PE X e t)(he:∀whole,isTrue e X.env whole=(do let v <- whole;standAt e.pos;holding [v] (truthy v)):=by intro _;rfl):PT X e (tB t):=by
 intro pins s σ H Q I hw;refine isTrue_plain (thn (h pins s σ H _ I hw) fun v s1 ⟨x,H1,I1,r1,q1⟩=>?_) (he _);obtain⟨d,rfl,q⟩:=q1;cases r1;exact A5u ⟨H1,I1,q⟩
variable {tA tB':TT}{rest:List Expr}
def tAnd (t u:TT):TT:=fun σ H Q=>t σ H fun c H1=>if c=true then u σ H1 Q else Q false H1
def tOr (t u:TT):TT:=fun σ H Q=>t σ H fun c H1=>if c=true then Q true H1 else u σ H1 Q
def tNot (t:TT):TT:=fun σ H Q=>t σ H fun c H1=>Q (!c) H1
theorem d3x (ha:PT X a tA):PW X (.BoolOp .And [a] pos) tA:=by
 intro wh pins s σ H Q I h;refine isTrue_and (thn (ha pins s σ H Q I h) fun c s1 e=>?_)
 cases c with
 | true=>exact isTrue_and_nil e
 | false=>exact e
theorem c3h (ha:PT X a tA):PW X (.BoolOp .Or [a] pos) tA:=by
 intro wh pins s σ H Q I h;refine isTrue_or (thn (ha pins s σ H Q I h) fun c s1 e=>?_)
 cases c with
 | false=>exact isTrue_or_nil e
 | true=>exact e
theorem pw_and (ha:PT X a tA)(hb:PW X (.BoolOp .And (b::rest) pos) tB'):PW X (.BoolOp .And (a::b::rest) pos) (tAnd tA tB'):=by
 intro wh pins s σ H Q I h;refine isTrue_and (thn (ha pins s σ H _ I h) fun c s1 hq9=>?_);obtain⟨H1,I1,q1⟩:=hq9
 cases c with
 | true=>exact hb wh pins s1 σ H1 Q I1 q1
 | false=>exact⟨H1,I1,q1⟩
theorem d6c (ha:PT X a tA)(hb:PW X (.BoolOp .Or (b::rest) pos) tB'):PW X (.BoolOp .Or (a::b::rest) pos) (tOr tA tB'):=by
 intro wh pins s σ H Q I h;refine isTrue_or (thn (ha pins s σ H _ I h) fun c s1 hq9=>?_);obtain⟨H1,I1,q1⟩:=hq9
 cases c with
 | true=>exact⟨H1,I1,q1⟩
 | false=>exact hb wh pins s1 σ H1 Q I1 q1
theorem b4g (ha:PT X a tA):PT X (.UnaryOp .Not a pos) (tNot tA):=by
 intro pins s σ H Q I h;exact isTrue_not (ha pins s σ H (fun c H1=>Q (!c) H1) I h)
def tAndV (ta tb:TE):TE:=fun σ H Q=>ta σ H fun x H1=>∃c,x=.bl c/\if c=true then tb σ H1 Q else Q (.bl false) H1
def tNotV (ta:TE):TE:=fun σ H Q=>ta σ H fun x H1=>∃c,x=.bl c/\Q (.bl (!c)) H1
theorem pe_one {op}{t:TE}(h:PE X a t):PE X (.BoolOp op [a] pos) t:=fun pins s σ H Q I hw=>BoolOp_one (h pins s σ H Q I hw)
theorem pe_and (ha:PE X a ta)(hb:PE X (.BoolOp .And (b::rest) pos) tb):PE X (.BoolOp .And (a::b::rest) pos) (tAndV ta tb):=by
 intro pins s σ H Q I h;refine BoolOp_and (thn (ha pins s σ H _ I h) fun v s1 hq9=>?_);obtain⟨x,H1,I1,r1,q1⟩:=hq9;obtain⟨c,rfl,q1⟩:=q1;cases r1;refine A5u ?_
 cases c with
 | true=>exact hb pins s1 σ H1 Q I1 q1
 | false=>exact⟨.bl false,H1,I1,rfl,q1⟩
theorem pe_not (ha:PE X a ta):PE X (.UnaryOp .Not a pos) (tNotV ta):=by
 intro pins s σ H Q I h;refine UnaryOp_ (thn (ha pins s σ H _ I h) fun v s1 hq9=>?_);obtain⟨x,H1,I1,r1,q1⟩:=hq9;obtain⟨c,rfl,q1⟩:=q1;cases r1;exact not_of (A5u ⟨.bl (!c),H1,I1,rfl,q1⟩)
def tIf (t:TT)(ta tb:TE):TE:=fun σ H Q=>t σ H fun c H1=>if c=true then ta σ H1 Q else tb σ H1 Q
theorem c5p (hc:PT X c tA)(ha:PE X a ta)(hb:PE X b tb):PE X (.IfExp c a b pos) (tIf tA ta tb):=by
 intro pins s σ H Q I h;refine wpAny_IfExp (thn (hc pins s σ H _ I h) fun d s1 hq9=>?_);obtain⟨H1,I1,q1⟩:=hq9
 cases d with
 | true=>exact ha pins s1 σ H1 Q I1 q1
 | false=>exact hb pins s1 σ H1 Q I1 q1
end
def SqL (K:A0a)(H:Hp)(a:Addr)(xs:List V):Prop:=
 Rd H a (.lst xs)\/
  ∃(o:Obj) (its:Array Value) (n:Nat),K.lookup a=some o/\o.cls=.type "list"/\o.dict=none/\o.data=.seq its n/\its.size<=sizeLine/\a5f xs its.toList
def SqT (K:A0a)(H:Hp)(a:Addr)(xs:List V):Prop:=
 Rd H a (.tup xs)\/
  ∃(o:Obj) (its:Array Value) (n:Nat),K.lookup a=some o/\o.cls=.type "tuple"/\o.data=.seq its n/\its.size<=sizeLine/\a5f xs its.toList
def absV:Value->Option V
 | .none=>some .non
 | .bool b=>some (.bl b)
 | .int i _=>some (.int i)
 | .str x _=>some (.str x)
 | .bytes b _=>some (.byt b)
 | .float b _=>some (.flt b)
 | .ref a=>some (.ref a)
 | .type n=>some (.ty n)
 | _=>none
theorem a4s.abs {x:V}(r:a4s x u):absV u=some x:=by
 cases x with
 | non=>cases r;rfl
 | bl _=>cases r;rfl
 | int _=>obtain⟨t,rfl⟩:=r;rfl
 | str _=>obtain⟨t,rfl⟩:=r;rfl
 | byt _=>obtain⟨t,rfl⟩:=r;rfl
 | flt _=>obtain⟨t,rfl⟩:=r;rfl
 | ref _=>cases r;rfl
 | ty _=>cases r;rfl
theorem a4s.inj {x y:V}(r:a4s x u)(q:a4s y u):x=y:=A0j (r.abs.symm.trans q.abs)
theorem a5f.inj:∀{xs ys:List V} {us:List Value},a5f xs us->a5f ys us->xs=ys
 | _,_,_,.nil,.nil=>rfl
 | _,_,_,.cons r t,.cons r' t'=>by rw[r.inj r',a5f.inj t t']
section
variable {X:Cx}{pins:List (Addr×Obj)}{σ:St}{H:Hp}{s:Shared}{a:Addr}{xs ys:List V}
theorem SqL.of (h:H a=some (.lst xs)):SqL K H a xs:=.inl (.inl h)
theorem SqT.of (h:H a=some (.tup xs)):SqT K H a xs:=.inl (.inl h)
theorem Inv.list (I:Inv X pins σ H s)(h:SqL X.K H a xs):∃its:List Value,a5f xs its/\PlainL s.heap a its.toArray/\xs.length<=sizeLine:=by
 rcases h with h|⟨o,its,n,hk,hc,hd,hs,hz,r⟩
 ·obtain⟨z,its,n,r,e⟩:=h.ok I.hok;exact⟨its,r,⟨_,n,e,rfl,rfl,rfl⟩,z⟩
 ·refine⟨its.toList,r,⟨o,n,I.kIn a o hk,hc,hd,by simpa using hs⟩,?_⟩;have e:=r.length;simp only[A2g] at e;omega
theorem Inv.tuple (I:Inv X pins σ H s)(h:SqT X.K H a xs):∃its:List Value,a5f xs its/\IsTup s.heap a its.toArray/\xs.length<=sizeLine:=by
 rcases h with h|⟨o,its,n,hk,hc,hs,hz,r⟩
 ·obtain⟨z,its,r,p⟩:=h.ok I.hok;exact⟨its,r,p,z⟩
 ·refine⟨its.toList,r,⟨o,I.kIn a o hk,hc,n,by simpa using hs⟩,?_⟩;have e:=r.length;simp only[A2g] at e;omega
theorem Inv.list_inj (I:Inv X pins σ H s)(h:SqL X.K H a xs)(h':SqL X.K H a ys):xs=ys:=by
 obtain⟨its,r,⟨o,n,e,_,_,d⟩,_⟩:=I.list h;obtain⟨its',r',⟨o',n',e',_,_,d'⟩,_⟩:=I.list h';rw[e] at e';cases e';rw[d] at d'
 injection d' with d1 _
 have:its=its':=by simpa using congrArg Array.toList d1
 subst this;exact r.inj r'
theorem Inv.tuple_inj (I:Inv X pins σ H s)(h:SqT X.K H a xs)(h':SqT X.K H a ys):xs=ys:=by
 obtain⟨its,r,⟨o,e,_,n,d⟩,_⟩:=I.tuple h;obtain⟨its',r',⟨o',e',_,n',d'⟩,_⟩:=I.tuple h';rw[e] at e';cases e';rw[d] at d'
 injection d' with d1 _
 have:its=its':=by simpa using congrArg Array.toList d1
 subst this;exact r.inj r'
end
abbrev Cx.wish (X:Cx)(E:Value->Shared->Prop):Cx:={ X with xe:=E }
abbrev Cx.nox (X:Cx):Cx:=X.wish fun _ _=>False
theorem Cx.Ok.wish {X:Cx}(ok:X.Ok)(E:Value->Shared->Prop):(X.wish E).Ok:=
 ⟨ok.mod,ok.kind,ok.glob,ok.blt,ok.above,ok.inj,ok.has,ok.cab,ok.hd,ok.frames,ok.stk,ok.exf,ok.bs,ok.bsz,ok.noex,ok.exfs,ok.funs,ok.frf⟩
theorem Cx.Ok.unwish {X:Cx}{E:Value->Shared->Prop}(ok:(X.wish E).Ok):X.Ok:=
 ⟨ok.mod,ok.kind,ok.glob,ok.blt,ok.above,ok.inj,ok.has,ok.cab,ok.hd,ok.frames,ok.stk,ok.exf,ok.bs,ok.bsz,ok.noex,ok.exfs,ok.funs,ok.frf⟩
section
variable {X:Cx}{pins:List (Addr×Obj)}{σ:St}{H:Hp}{s:Shared}{E:Value->Shared->Prop}
theorem Inv.wish (I:Inv X pins σ H s)(E:Value->Shared->Prop):Inv (X.wish E) pins σ H s:=⟨I.ok.wish E,I.os,I.bare,I.base,I.loc,I.cell,I.free,I.freeC,I.pin,I.hok,I.len⟩
theorem Inv.unwish (I:Inv (X.wish E) pins σ H s):Inv X pins σ H s:=⟨I.ok.unwish,I.os,I.bare,I.base,I.loc,I.cell,I.free,I.freeC,I.pin,I.hok,I.len⟩
theorem SP.unwish {D:c1z}{f:Flow}{s':Shared}(h:SP (X.wish E) pins D f s'):SP X pins D f s':=by
 cases f with
 | next=>obtain⟨σ',H',I,q⟩:=h;exact⟨σ',H',I.unwish,q⟩
 | brk=>obtain⟨σ',H',I,q⟩:=h;exact⟨σ',H',I.unwish,q⟩
 | cont=>obtain⟨σ',H',I,q⟩:=h;exact⟨σ',H',I.unwish,q⟩
 | ret u=>obtain⟨v,σ',H',I,r,q⟩:=h;exact⟨v,σ',H',I.unwish,r,q⟩
theorem PSs.nox {st:List Stmt}{t:TS}(h:PSs X.nox st t):PSs X st t:=fun pins s σ H D I hw=>
 A2m (h pins s σ H D (I.wish _) hw) (fun _ _ q=>q.unwish) fun _ _ z=>A1u z
end
section
variable {X:Cx}{st:Stmt}{rest:List Stmt}{t u:TS}{e:Expr}{te:TE}{pos:Pos}
def tNext:TS:=fun D σ H=>D.nx σ H
def tSeq (t u:TS):TS:=fun D σ H=>t { D with nx:=u D } σ H
theorem a1q:PSs X [] tNext:=fun _ _ σ H _ I h=>A8j ⟨σ,H,I,h⟩
theorem a0d (h1:PS X st t)(h2:PSs X rest u):PSs X (st::rest) (tSeq t u):=by
 intro pins s σ H D I h;refine A7y (thn (h1 pins s σ H { D with nx:=u D } I h) fun f s1 q=>?_)
 cases f with
 | next=>
  obtain⟨σ',H',I',q⟩:=q;exact h2 pins s1 σ' H' D I' q
 | ret v=>exact q
 | brk=>exact q
 | cont=>exact q
theorem a0m (h1:PS X st t):PSs X [st] t:=by
 intro pins s σ H D I h;refine A7y (thn (h1 pins s σ H D I h) fun f s1 q=>?_)
 cases f with
 | next=>exact A8j q
 | ret v=>exact q
 | brk=>exact q
 | cont=>exact q
theorem Inv.quiet {σ:St}{H:Hp}(I:Inv X pins σ H s):interactive X.env=false:=by simp[interactive,I.ok.kind]
def tDrop (te:TE):TS:=fun D σ H=>te σ H fun _ H1=>D.nx σ H1
theorem a2y (he:PE X e te)(hs:swapsWith e none pos.line X.env=pure false:=by rfl):PS X (.Expr e pos) (tDrop te):=by
 intro pins s σ H D I h;exact wpAny_Expr_any (thn (he pins s σ H _ I h) fun v s1 ⟨x,H1,I1,r1,q1⟩=>⟨σ,H1,I1,q1⟩) I.quiet hs
def tRet (te:TE):TS:=fun D σ H=>te σ H D.rt
theorem a0x (he:PE X e te):PS X (.Return (some e) pos) (tRet te):=by
 intro pins s σ H D I h;exact wpAny_Return_some (thn (he pins s σ H _ I h) fun v s1 ⟨x,H1,I1,r1,q1⟩=>⟨x,σ,H1,I1,r1,q1⟩)
def tIfS (c:TT)(t u:TS):TS:=fun D σ H=>c σ H fun b H1=>if b=true then t D σ H1 else u D σ H1
theorem a3t {a b:List Stmt}{tc:TT}(hc:PT X c tc)(ha:PSs X a t)(hb:PSs X b u):PS X (.If c a b pos) (tIfS tc t u):=by
 intro pins s σ H D I h;refine wpAny_If (thn (hc pins s σ H _ I h) fun d s1 hq9=>?_);obtain⟨H1,I1,q1⟩:=hq9
 cases d with
 | true=>exact ha pins s1 σ H1 D I1 q1
 | false=>exact hb pins s1 σ H1 D I1 q1
def tNever:TS:=fun _ _ _=>False
theorem a4r:PS X st tNever:=fun _ _ _ _ _ _ h=>h.elim
end
abbrev TG:=V->St->Hp->(St->Hp->Prop)->Prop
abbrev TGs:=List V->St->Hp->(St->Hp->Prop)->Prop
def PG (X:Cx)(target:Expr)(t:TG):Prop:=
 ∀(pins:List (Addr×Obj)) (s:Shared) (σ:St) (H:Hp) (v:V) (u:Value) (Q:St->Hp->Prop),Inv X pins σ H s->a4s v u->t v σ H Q->
  wpAny (model X.prog X.w) X.A (assign target X.env u) (fun _ s'=>∃σ' H',Inv X pins σ' H' s'/\Q σ' H') X.xe s
def PGs (X:Cx)(ts:List Expr)(t:TGs):Prop:=
 ∀(pins:List (Addr×Obj)) (s:Shared) (σ:St) (H:Hp) (vs:List V) (us:List Value) (Q:St->Hp->Prop),Inv X pins σ H s->a5f vs us->t vs σ H Q->
  wpAny (model X.prog X.w) X.A (assignInOrder ((assignEach ts X.env).map (·.2)) us) (fun _ s'=>∃σ' H',Inv X pins σ' H' s'/\Q σ' H') X.xe s
section
variable {X:Cx}{pos:Pos}
def gName (i:Nat):TG:=fun v σ H Q=>Q (σ.set i (some v)) H
theorem a2a (hN:X.N.Nodup)(hi:X.N[i]? = some x)(hx:Loc X.env.scope x)(hf:X.fn x=true\/X.env.scope.names.lookup x=some .local:=by first|exact .inl rfl|exact .inr rfl|assumption):PG X (.Name x pos) (gName i):=by
 intro pins s σ H v u Q I r h;exact B0b (c5y I hN hi hx r (fun s' I'=>⟨_,H,I',h⟩) hf)
def gNil:TGs:=fun vs σ H Q=>vs=[]/\Q σ H
def gCons (t:TG)(u:TGs):TGs:=fun vs σ H Q=>∃v r,vs=v::r/\t v σ H fun σ' H'=>u r σ' H' Q
theorem b0v:PGs X [] gNil:=by
 intro pins s σ H vs us Q I r h;obtain⟨e,h⟩:=h;subst e;cases r;exact assignInOrder_nil ⟨σ,H,I,h⟩
theorem a2e {t:TG}{u:TGs}(h1:PG X e t)(h2:PGs X es u)
  (hs:(assignEach (e::es) X.env).map (·.2)=assign e X.env::(assignEach es X.env).map (·.2):=by rfl):PGs X (e::es) (gCons t u):=by
 intro pins s σ H vs us Q I r h;obtain⟨v,vr,e1,h⟩:=h;subst e1
 cases r with
 | cons r rr=>
  rw[hs];refine A9e (thn (h1 pins s σ H _ _ _ I r h) fun _ s1 hq9=>?_);obtain⟨σ1,H1,I1,q1⟩:=hq9;exact h2 pins s1 σ1 H1 _ _ Q I1 rr q1
def gTup (K:A0a)(n:Nat)(t:TGs):TG:=fun v σ H Q=>∃a xs,v=.ref a/\SqT K H a xs/\xs.length=n/\t xs σ H Q
theorem b5f {t:TGs}{n:Nat}(hc:X.calm=true)(h:PGs X es t)
  (hn:(assignEach es X.env).length=n:=by rfl) (hst:(assignEach es X.env).findIdx? (·.1)=none:=by rfl):PG X (.Tuple es k pos) (gTup X.K n t):=by
 intro pins s σ H v u Q I r hw;obtain⟨a,xs,e1,hq,hl,hw⟩:=hw;subst e1;cases r;obtain⟨its,rv,ht,hz⟩:=I.tuple hq;refine assign_Tuple_tuple (I.ok.hd hc) ht (by simp[hn,<- hl,rv.length]) hst fun h' hx=>?_;have I1:Inv X pins σ H { s with heap:=h' }:=I.kept (t':=s.toks) fun b o e=>hx b o (A1j (A0n e)) e;exact h pins _ σ H xs _ Q I1 (by simpa using rv) hw
def tAsg (te:TE)(g:TG):TS:=fun D σ H=>te σ H fun x H1=>g x σ H1 D.nx
theorem ps_asg {te:TE}{g:TG}(he:PE X e te)(hg:PG X tg g)(hs:swapsWithSole [tg] e pos.line X.env=pure false:=by rfl)(hw:swappedStores [tg] e X.env=pure none:=by rfl)
  (h1:(assignEach [tg] X.env).map (·.2)=[assign tg X.env]:=by rfl):PS X (.Assign [tg] e pos) (tAsg te g):=by
 intro pins s σ H D I h;refine wpAny_Assign_stores (thn (he pins s σ H _ I h) fun v s1 ⟨x,H1,I1,r1,q1⟩=>?_) hs hw;rw[h1];exact thn (hg pins s1 σ H1 x v _ I1 r1 q1) fun _ s2 q=>q
theorem b2w {te:TE}{pos':Pos}(hN:X.N.Nodup)(hi:X.N[i]? = some x)(hx:Loc X.env.scope x)(he:PE X e te)(hs:swapsWith e (some (.Name x pos')) pos.line X.env=pure false:=by rfl)(hf:X.fn x=true\/X.env.scope.names.lookup x=some .local:=by first|exact .inl rfl|exact .inr rfl|assumption) :
  PS X (.Assign [.Name x pos'] e pos) (tAsg te (gName i)):=by
 intro pins s σ H D I h;refine wpAny_Assign_Name (thn (he pins s σ H _ I h) fun v s1 ⟨y,H1,I1,r1,q1⟩=>?_) hs;exact c5y I1 hN hi hx r1 (fun s2 I2=>⟨_,H1,I2,q1⟩) hf
def tPar (i j:Nat)(ta:TA):TS:=fun D σ H=>ta σ H fun vs H1=>∃v w,vs=[v,w]/\D.nx ((σ.set i (some v)).set j (some w)) H1
theorem ps_par {y:Str}{a b:Expr}{ta:TA}{px py pt:Pos}{kt k2 pt2}(hc:X.calm=true)(hN:X.N.Nodup)(hi:X.N[i]? = some x)(hj:X.N[j]? = some y)(hij:i≠j)
  (hx:X.env.scope.names.lookup x=some .local) (hy:X.env.scope.names.lookup y=some .local) (ha:PA X [a,b] ta)
  (hw:swappedStores [.Tuple [.Name x px,.Name y py] kt pt] (.Tuple [a,b] k2 pt2) X.env=pure (some [x,y]))
  (hs:swapsWithSole [.Tuple [.Name x px,.Name y py] kt pt] (.Tuple [a,b] k2 pt2) pos.line X.env=pure false:=by rfl) :
  PS X (.Assign [.Tuple [.Name x px,.Name y py] kt pt] (.Tuple [a,b] k2 pt2) pos) (tPar i j ta):=by
 intro pins s σ H D I h;rw[exec_Assign_arm];refine A0b (B0q ?_);rw[hs];refine A0b (A0h ?_);rw[if_neg (by decide)];refine A0b (Tuple_ (thn (ha _ pins s σ H _ I h) fun us s1 hq9=>?_));obtain⟨vs,H1,I1,r1,q1⟩:=hq9;obtain⟨v,w,e1,q1⟩:=q1;subst e1
 obtain⟨u1,u2,rfl,rv,rw'⟩:∃u1 u2,us=[u1,u2]/\a4s v u1/\a4s w u2:=by
  cases r1 with
  | cons p q=>
   cases q with
   | cons p' q'=>
    cases q';exact⟨_,_,rfl,p,p'⟩
 refine A4s ?_ (by show 2<=sizeLine;decide);have I2:Inv X pins σ H1 { s1 with heap:=s1.heap.push { cls:=.type "tuple",data:=.seq [u1,u2].toArray } }:=I1.kept (t':=s1.toks) fun b o e=>Heap.get?_push_of_some _ e;rw[hw];refine A0b (A0h ?_);show wpAny (model X.prog X.w) X.A (do rule "assign.swapped-stores"; let items <- unpackItems (.ref s1.heap.objs.size) 2 none;assignInOrder [fun v=>bindName X.env y v,fun v=>bindName X.env x v] items.reverse;pure Flow.next) _ _ _;refine A0b (wpAny_rule (A0b (unpackItems_tuple (items:=#[u1,u2]) (I.ok.hd hc) (IsTup.new s1.heap _) fun h' hx'=>?_)));have I3:=I2.kept (h':=h') (t':=s1.toks) fun b o e=>hx' b o (A1j (A0n e)) e;show wpAny _ _ (assignInOrder [fun v=>bindName X.env y v,fun v=>bindName X.env x v] [u2,u1] >>= fun _=>pure Flow.next) _ _ _;refine A0b (A9e (wpAny_bindName (c5y I3 hN hj (.inl hy) rw' (fun s2 I4=>?_) (.inr hy))));refine A9e (wpAny_bindName (c5y I4 hN hi (.inl hx) rv (fun s3 I5=>assignInOrder_nil (A0h ?_)) (.inr hx)));rw[List.set_comm _ _ (A1e hij)] at I5;exact⟨_,H1,I5,q1⟩
end
section
variable {X:Cx}{pos:Pos}
def tWhile (c:TT)(tb:TS):TS:=fun D σ H=>∃W:Nat->St->Hp->Prop,(∃m,W m σ H)/\∀m σ H,W m σ H->
 c σ H fun b H1=>if b=true then ∃N:St->Hp->Prop,(∀σ' H',N σ' H'->∃m',m'<m/\W m' σ' H')/\tb { D with nx:=N,ct:=N,bk:=D.nx } σ H1 else D.nx σ H1
theorem ps_while {tc:TT}{tb:TS}(hp:PassesOwn (model X.prog X.w) X.A X.env X.xe)(hc:PT X c tc)(hb:PSs X body tb):PS X (.While c body [] pos) (tWhile tc tb):=by
 intro pins s σ H D I h;obtain⟨W,⟨m0,w0⟩,a2q⟩:=h;refine wpAny_While (codeAny_whileLoop (fun n s'=>∃σ' H',Inv X pins σ' H' s'/\W n σ' H') ?_ m0 ⟨σ,H,I,w0⟩);rintro n s1 ⟨σ1,H1,I1,w1⟩;refine A4t hp (thn (hc pins s1 σ1 H1 _ I1 (a2q n σ1 H1 w1)) fun b s2 hq9=>?_);obtain⟨H2,I2,q2⟩:=hq9
 cases b with
 | true=>
  obtain⟨N,hN,q2⟩:=q2;rw[if_pos rfl];refine A4t hp (thn (hb pins s2 σ1 H2 _ I2 q2) fun f s3 q3=>?_)
  cases f with
  | next=>
   obtain⟨σ3,H3,I3,n3⟩:=q3;obtain⟨m',hm,w3⟩:=hN σ3 H3 n3;exact⟨m',hm,σ3,H3,I3,w3⟩
  | cont=>
   obtain⟨σ3,H3,I3,n3⟩:=q3;obtain⟨m',hm,w3⟩:=hN σ3 H3 n3;exact⟨m',hm,σ3,H3,I3,w3⟩
  | brk=>exact q3
  | ret v=>exact q3
 | false=>
  rw[if_neg A1d];exact A8j ⟨σ1,H2,I2,q2⟩
end
structure It where
 go:Nat->Hp->Prop
 yld:Nat->Hp->V->Hp->Prop
 stop:Nat->Hp->Prop
def FpOk (X:Cx)(pins:List (Addr×Obj))(H:Hp)(b:Addr):Prop:=
 H b=none/\b≠X.env.locals/\b∉X.fs/\(b∈X.ex\/X.s₀.heap.objs.size<=b)/\(∀x c,X.env.cells.lookup x=some c->c≠b)/\∀p∈X.pn++pins,p.1≠b
theorem Inv.fpOk {X:Cx}{σ:St}{H H':Hp}(I:Inv X pins σ H s)(hb:s.heap.objs.size<=b)(hn:H' b=none):FpOk X pins H' b:=by
 refine⟨hn,B1g (A0g I.lt hb),I.nofs hb,.inr (A0y I.sz hb),fun x c e z=>?_,fun p hp z=>?_⟩
 ·obtain⟨v,q⟩:=I.cell x c e;exact absurd (A0g q.lt (by rw[z];exact hb)) (A2v _)
 ·exact absurd (A0g (A0n (I.pin p hp).1) (by rw[z];exact hb)) (A2v _)
structure Turn (P:Program)(w:World)(K:A0a)(tg:Expr)(J:It)(fp:List Addr)(it:Addr)(tn:Nat->Heap->Prop):Prop where
 mem:it∈fp
 obj:∀i h,tn i h->∀b∈fp,∃o,h.get? b=some o/\∀v,o.data≠.cell v
 keep:∀i h h',tn i h->(∀b∈fp,∀o,h.get? b=some o->h'.get? b=some o)->tn i h'
 item:∀(X:Cx),X.prog=P->X.w=w->X.K=K->X.calm=true->∀(i:Nat) (pins:List (Addr×Obj)) (s:Shared) (σ:St) (H:Hp) (E:Value->Shared->Prop),Inv X pins σ H s->(∀b∈fp,FpOk X pins H b)->tn i s.heap->J.go i H->
  wpAny (model P w) X.A (pyNext (.ref it)) (fun r s1=>∃u,r=some u/\
   wpAny (model P w) X.A (letOwnedTupleGo tg (.ref it) u) (fun _ s2=>∃x H',Inv X pins σ H' s2/\a4s x u/\J.yld i H x H'/\tn (i+1) s2.heap/\∀b∈fp,H' b=none) E s1) E s
 done:∀(X:Cx),X.prog=P->X.w=w->X.K=K->X.calm=true->∀(i:Nat) (pins:List (Addr×Obj)) (s:Shared) (σ:St) (H:Hp) (E:Value->Shared->Prop),Inv X pins σ H s->(∀b∈fp,FpOk X pins H b)->tn i s.heap->J.stop i H->
  wpAny (model P w) X.A (pyNext (.ref it)) (fun r s1=>r=none/\Inv X pins σ H s1) E s
 self:∀(A:Around) (i:Nat) (s:Shared) (Q:Value->Shared->Prop) (E:Value->Shared->Prop),tn i s.heap->Q (.ref it) s->wpAny (model P w) A (pyIter (.ref it)) Q E s
abbrev TI:=St->Hp->(It->Hp->Prop)->Prop
def PIE (X:Cx)(pins:List (Addr×Obj))(σ:St)(tg:Expr)(R:It->Hp->Prop)(itv:Value)(s2:Shared):Prop:=
 ∃(it:Addr) (fp:List Addr) (tn:Nat->Heap->Prop) (J:It) (H':Hp),itv=.ref it/\Inv X pins σ H' s2/\Turn X.prog X.w X.K tg J fp it tn/\tn 0 s2.heap/\(∀b∈fp,FpOk X pins H' b)/\R J H'
def PI (X:Cx)(tg iter:Expr)(wi:TI):Prop:=
 ∀(pins:List (Addr×Obj)) (s:Shared) (σ:St) (H:Hp) (R:It->Hp->Prop),Inv X pins σ H s->wi σ H R->
  wpAny (model X.prog X.w) X.A (eval iter X.env) (fun v s1=>wpAny (model X.prog X.w) X.A (pyIter v) (PIE X pins σ tg R) X.xe s1) X.xe s
theorem go_of {E:Value->Shared->Prop}{n:String}{vs:Array Value}{Q:Unit->Shared->Prop}(ho:s.heap.get? it=some o)(hc:o.cls=.type n)(hd:o.data=.fields vs)
  (hn:["enumerate","zip","dict_itemiterator","dict_reverseitemiterator","odict_iterator","itertools.zip_longest","itertools.pairwise"].contains n=false) (hQ:Q () s):wpAny M A (letOwnedTupleGo tg (.ref it) u) Q E s:=by
 unfold letOwnedTupleGo
 cases tg<;>first
  | exact A0h hQ
  | (cases u<;>first
    | exact A0h hQ
    | (refine A0b (wpAny_load ho ?_)
       rw[hc,hd];show wpAny M A (if (["enumerate","zip","dict_itemiterator","dict_reverseitemiterator","odict_iterator","itertools.zip_longest","itertools.pairwise"].contains n&&vs[0]? == some (rawInt _))=true then _ else _) Q E s;rw[if_neg (by intro h;rw[hn,A2x] at h;cases h)]
       exact A0h hQ))
def Itl (K:A0a)(a:Addr):It:=
 ⟨fun i H=>∃xs x,SqL K H a xs/\xs[i]? = some x,fun i H x H'=>H'=H/\∀xs,SqL K H a xs->xs[i]? = some x,fun i H=>∃xs,SqL K H a xs/\xs.length<=i⟩
def Itt (K:A0a)(a:Addr):It:=
 ⟨fun i H=>∃xs x,SqT K H a xs/\xs[i]? = some x,fun i H x H'=>H'=H/\∀xs,SqT K H a xs->xs[i]? = some x,fun i H=>∃xs,SqT K H a xs/\xs.length<=i⟩
def Itr (lo:Int)(n:Nat):It:=⟨fun i _=>i<n,fun i H x H'=>H'=H/\x=.int (lo+i),fun i _=>n<=i⟩
theorem turn_list {w:World}(a it:Addr):Turn P w K tg (Itl K a) [it] it (fun i h=>h.IsListIter it a i) where
 mem:=by simp
 obj:=fun i h st b hb=>by
  have e:b=it:=by simpa using hb
  subst e;obtain⟨o,e,c,d⟩:=st;exact⟨o,e,fun v z=>by rw[d] at z;cases z⟩
 keep:=fun i h h' st k=>st.at fun o e=>k it (by simp) o e
 item:=by
  intro X hP hw hK hc i pins s σ H E I hf st hg;subst hP hw hK;obtain⟨xs,x,hq,hx⟩:=hg;obtain⟨its,rv,p,hz⟩:=I.list hq;obtain⟨u,hu,ru⟩:=rv.get hx;obtain⟨f0,f1,f2,f3,f4,f5⟩:=hf it (by simp);refine wpAny_pyNext_list_item st p.isList (x:=u) (by simpa using hu) fun h' st' sb=>?_;have I1:Inv X pins σ H { s with heap:=h' }:=I.turned (t':=s.toks) (fun b o hb e=>(sb.2 b hb).trans e) f0 f1 f3 f4 f5;obtain⟨o,e,c,d⟩:=id st';exact⟨u,rfl,go_of (s:={ s with heap:=h' }) e c d (by decide) ⟨x,H,I1,ru,⟨rfl,fun ys hy=>by rw[I.list_inj hy hq];exact hx⟩,st',fun b hb=>(hf b hb).1⟩⟩
 done:=by
  intro X hP hw hK hc i pins s σ H E I hf st hg;subst hP hw hK;obtain⟨xs,hq,hx⟩:=hg;obtain⟨its,rv,p,hz⟩:=I.list hq;obtain⟨f0,f1,f2,f3,f4,f5⟩:=hf it (by simp);have hl:=rv.length;exact wpAny_pyNext_list_end (I.ok.hd hc) st p.isList (by simp;omega) fun h' eb=>⟨rfl,I.turned (t':=s.toks) (fun b o hb e=>eb b o hb e) f0 f1 f3 f4 f5⟩
 self:=fun _ _ _ _ _ st h=>wpAny_pyIter_listiter st h
theorem turn_tuple {w:World}(a it:Addr):Turn P w K tg (Itt K a) [it] it (fun i h=>h.IsTupleIter it a i) where
 mem:=by simp
 obj:=fun i h st b hb=>by
  have e:b=it:=by simpa using hb
  subst e;obtain⟨o,e,c,d⟩:=st;exact⟨o,e,fun v z=>by rw[d] at z;cases z⟩
 keep:=fun i h h' st k=>st.at fun o e=>k it (by simp) o e
 item:=by
  intro X hP hw hK hc i pins s σ H E I hf st hg;subst hP hw hK;obtain⟨xs,x,hq,hx⟩:=hg;obtain⟨its,rv,p,hz⟩:=I.tuple hq;obtain⟨u,hu,ru⟩:=rv.get hx;obtain⟨f0,f1,f2,f3,f4,f5⟩:=hf it (by simp);refine wpAny_pyNext_tuple_item st (show s.heap.IsTuple a its.toArray from p) (x:=u) (by simpa using hu) fun h' st' sb=>?_;have I1:Inv X pins σ H { s with heap:=h' }:=I.turned (t':=s.toks) (fun b o hb e=>(sb.2 b hb).trans e) f0 f1 f3 f4 f5;obtain⟨o,e,c,d⟩:=id st';exact⟨u,rfl,go_of (s:={ s with heap:=h' }) e c d (by decide) ⟨x,H,I1,ru,⟨rfl,fun ys hy=>by rw[I.tuple_inj hy hq];exact hx⟩,st',fun b hb=>(hf b hb).1⟩⟩
 done:=by
  intro X hP hw hK hc i pins s σ H E I hf st hg;subst hP hw hK;obtain⟨xs,hq,hx⟩:=hg;obtain⟨its,rv,p,hz⟩:=I.tuple hq;obtain⟨f0,f1,f2,f3,f4,f5⟩:=hf it (by simp);have hl:=rv.length;exact wpAny_pyNext_tuple_end (I.ok.hd hc) st (show s.heap.IsTuple a its.toArray from p) (by simp;omega) fun h' eb=>⟨rfl,I.turned (t':=s.toks) (fun b o hb e=>eb b o hb e) f0 f1 f3 f4 f5⟩
 self:=fun _ _ _ _ _ st h=>wpAny_pyIter_tupleiter st h
theorem turn_range {w:World}(it:Addr)(lo:Int)(n:Nat):Turn P w K tg (Itr lo n) [it] it (fun i h=>IsRangeIter h it (lo+(i:Nat)*1) ((n:Int)-(i:Nat)) 1) where
 mem:=by simp
 obj:=fun i h st b hb=>by
  have e:b=it:=by simpa using hb
  subst e
  exact⟨_,st,fun v z=>by
   have z':Data.fields _=Data.cell v:=z
   cases z'⟩
 keep:=fun i h h' st k=>k it (by simp) _ st
 item:=by
  intro X hP hw hK hc i pins s σ H E I hf st hg;subst hP hw hK;obtain⟨f0,f1,f2,f3,f4,f5⟩:=hf it (by simp);have W:=Walks.range (prog:=X.prog) (w:=X.w) (I.ok.hd hc) it lo 1 n;refine W.item i s _ _ hg st fun v h' tk hv st' kk=>?_;obtain⟨t,rfl⟩:=hv;have I1:Inv X pins σ H { s with heap:=h',toks:=tk }:=I.turned (fun b o hb e=>kk b o (by simpa using hb) e) f0 f1 f3 f4 f5;refine⟨_,rfl,go_of (s:={ s with heap:=h',toks:=tk }) (n:="range_iterator") st' rfl rfl (by decide) ⟨.int (lo+i),H,I1,⟨t,?_⟩,⟨rfl,rfl⟩,st',fun b hb=>(hf b hb).1⟩⟩;rw[Int.mul_one]
 done:=by
  intro X hP hw hK hc i pins s σ H E I hf st hg;subst hP hw hK;obtain⟨f0,f1,f2,f3,f4,f5⟩:=hf it (by simp);exact wpAny_pyNext_range_end (I.ok.hd hc) st (by have:n<=i:=hg;omega) fun h' eb=>⟨rfl,I.turned (t':=s.toks) (fun b o hb e=>eb b o hb e) f0 f1 f3 f4 f5⟩
 self:=fun _ _ _ _ _ st h=>wpAny_pyIter_rangeiter st h
section
variable {X:Cx}{tg:Expr}
def iList (K:A0a)(tl:TE):TI:=fun σ H R=>tl σ H fun x H1=>∃a,x=.ref a/\(∃xs,SqL K H1 a xs)/\R (Itl K a) H1
def iTup (K:A0a)(tl:TE):TI:=fun σ H R=>tl σ H fun x H1=>∃a,x=.ref a/\(∃xs,SqT K H1 a xs)/\R (Itt K a) H1
theorem a5m {tl:TE}(hl:PE X l tl):PI X tg l (iList X.K tl):=by
 intro pins s σ H R I h;refine thn (hl pins s σ H _ I h) fun v s1 hq9=>?_;obtain⟨x,H1,I1,r1,q1⟩:=hq9;obtain⟨a,e,⟨xs,hq⟩,q⟩:=q1;subst e;cases r1;obtain⟨its,rv,p,hz⟩:=I1.list hq;refine wpAny_pyIter_list p.isList ?_;refine⟨s1.heap.objs.size,[s1.heap.objs.size],_,_,H1,rfl,I1.kept (t':=s1.toks) fun b o e=>Heap.get?_push_of_some _ e,turn_list a _,⟨_,Heap.get?_push_size _ rfl,rfl,rfl⟩,fun b hb=>?_,q⟩;have e:b=s1.heap.objs.size:=by simpa using hb
 subst e;exact I1.fpOk (A0f _) (I1.hok.fresh (A0f _))
theorem pi_tup {tl:TE}(hl:PE X l tl):PI X tg l (iTup X.K tl):=by
 intro pins s σ H R I h;refine thn (hl pins s σ H _ I h) fun v s1 hq9=>?_;obtain⟨x,H1,I1,r1,q1⟩:=hq9;obtain⟨a,e,⟨xs,hq⟩,q⟩:=q1;subst e;cases r1;obtain⟨its,rv,p,hz⟩:=I1.tuple hq;refine A9f (show s1.heap.IsTuple a its.toArray from p) ?_;refine⟨s1.heap.objs.size,[s1.heap.objs.size],_,_,H1,rfl,I1.kept (t':=s1.toks) fun b o e=>Heap.get?_push_of_some _ e,turn_tuple a _,⟨_,Heap.get?_push_size _ rfl,rfl,rfl⟩,fun b hb=>?_,q⟩;have e:b=s1.heap.objs.size:=by simpa using hb
 subst e;exact I1.fpOk (A0f _) (I1.hok.fresh (A0f _))
theorem range_it {σ:St}{H:Hp}{R:It->Hp->Prop}{E:Value->Shared->Prop}{hi:Int}{t u v:Tok}{tk:Nat}(I:Inv X pins σ H s)(h1:-(2^62)<=lo)(h2:lo<2^62)(h3:-(2^62)<=hi)(h4:hi<2^62)
  (q:R (Itr lo (hi-lo).toNat) H):wpAny (model X.prog X.w) X.A (pyIter (.ref s.heap.objs.size)) (PIE X pins σ tg R) E { s with heap:=s.heap.push { cls:=.type "range",data:=.fields #[.int lo t,.int hi u,.int 1 v] },toks:=tk }:=by
 refine wpAny_pyIter_range (IsRange.new ..) (small_one h1 h2 h3 h4) ?_;have I1:Inv X pins σ H { s with heap:=s.heap.push { cls:=.type "range",data:=.fields #[.int lo t,.int hi u,.int 1 v] },toks:=tk }:=I.kept fun b o e=>Heap.get?_push_of_some _ e
 refine⟨(s.heap.push { cls:=.type "range",data:=.fields #[.int lo t,.int hi u,.int 1 v] }).objs.size,[(s.heap.push { cls:=.type "range",data:=.fields #[.int lo t,.int hi u,.int 1 v] }).objs.size],_,_,H,rfl,
  I1.kept (t':=tk) fun b o e=>Heap.get?_push_of_some _ e,turn_range _ lo (hi-lo).toNat,?_,fun b hb=>?_,q⟩
 ·have e1:lo+((0:Nat):Int)*1=lo:=by simp
  have e2:(((hi-lo).toNat:Nat):Int)-((0:Nat):Int)=Builtin.Range.rangeSize lo hi 1:=by rw[rangeSize_one];split<;>omega
  show IsRangeIter _ _ (lo+((0:Nat):Int)*1) ((((hi-lo).toNat:Nat):Int)-((0:Nat):Int)) 1;rw[e1,e2];exact Heap.get?_push_size _ rfl
 ·have e:b=(s.heap.push { cls:=.type "range",data:=.fields #[.int lo t,.int hi u,.int 1 v] }).objs.size:=by simpa using hb
  subst e;exact I1.fpOk (A0f _) (I1.hok.fresh (A0f _))
def iRng1 (ta:TA):TI:=fun σ H R=>ta σ H fun vs H1=>∃j:Int,vs=[.int j]/\-(2^62)<=j/\j<2^62/\R (Itr 0 j.toNat) H1
theorem b5y {a:Expr}{ta:TA}{p:Pos}(hg:Gl X "range")(hm:X.mg "range" = none)(ha:PA X [a] ta)(hs:starEach [a] X.env=[(false,eval a X.env)]:=by rfl):PI X tg (.Call (.Name "range" p) [a] [] pos) (iRng1 ta):=by
 intro pins s σ H R I h;refine Call_ (ld_blt I hg hm boot_range (A8k (thn (ha pos pins s σ H _ I h) fun us s1 ⟨vs,H1,I1,r1,q1⟩=>?_) hs rfl));obtain⟨j,e,q1,q2,q⟩:=q1;subst e
 cases r1 with
 | cons r rr=>
  cases rr;obtain⟨t,rfl⟩:=r;exact call_range_1 (range_it I1 (by omega) (by omega) q1 q2 (by simpa using q))
def tFor (wi:TI)(g:TG)(tb:TS):TS:=fun D σ H=>wi σ H fun J H1=>∃W:Nat->Nat->St->Hp->Prop,(∃m,W 0 m σ H1)/\∀i m σ H,W i m σ H->
 (J.stop i H/\D.nx σ H)\/(J.go i H/\∃N:St->Hp->Prop,(∀σ' H',N σ' H'->∃m',m'<m/\W (i+1) m' σ' H')/\∀x H',J.yld i H x H'->g x σ H' fun σ2 H2=>tb { D with nx:=N,ct:=N,bk:=D.nx } σ2 H2)
def pinsAt (fp:List Addr)(h:Heap):List (Addr×Obj):=fp.filterMap fun b=>(h.get? b).map fun o=>(b,o)
theorem b6h (hb:b∈fp)(e:h.get? b=some o):(b,o)∈pinsAt fp h:=List.mem_filterMap.mpr ⟨b,hb,by rw[e];rfl⟩
theorem of_pinsAt {p:Addr×Obj}(hp:p∈pinsAt fp h):p.1∈fp/\h.get? p.1=some p.2:=by
 obtain⟨b,hb,e⟩:=List.mem_filterMap.mp hp
 cases q:h.get? b with
 | none=>rw[q] at e;cases e
 | some o=>
  rw[q] at e;have e':(b,o)=p:=A0j e;subst e';exact⟨hb,q⟩
theorem Inv.pinned {σ:St}{H:Hp}(I:Inv X pins σ H s)(hf:∀b∈fp,FpOk X pins H b)(ho:∀b∈fp,∃o,s.heap.get? b=some o/\∀v,o.data≠.cell v):Inv X (pins++pinsAt fp s.heap) σ H s:=
 I.pins_of fun p hp=>(List.mem_append.mp hp).elim (fun z=>I.pin p (A2a _ z)) fun z=>by
  obtain⟨hb,e⟩:=of_pinsAt z;obtain⟨f0,f1,f2,_⟩:=hf p.1 hb;obtain⟨o,e',d⟩:=ho p.1 hb;rw[e] at e';cases e';exact⟨e,f0,f1,f2,d⟩
theorem Inv.unpinned {pl:List (Addr×Obj)}{σ:St}{H:Hp}(I:Inv X (pins++pl) σ H s):Inv X pins σ H s:=I.pins_of fun p hp=>I.pin p (A2a _ (A6a _ hp))
theorem b0e {iter:Expr}{wi:TI}{g:TG}{tb:TS}(hp:PassesOwn (model X.prog X.w) X.A X.env X.xe)(hc:X.calm=true)(hi:PI X tg iter wi)(hg:PG X tg g)(hb:PSs X body tb)
  (hs:∀x,foldedSetIterable iter X.env x=pure x:=by intro _;rfl):PS X (.For tg iter body [] pos) (tFor wi g tb):=by
 intro pins s σ H D I h;refine wpAny_For (thn (hi pins s σ H _ I h) fun v s1 h1=>thn h1 fun itv s2 h2=>?_) hs;obtain⟨it,fp,tn,J,H2,e,I2,T,st2,f2,W,⟨m0,w0⟩,a2q⟩:=h2;subst e;have stat:∀{H':Hp},(∀b∈fp,H' b=none)->∀b∈fp,FpOk X pins H' b:=fun hn b hb=>⟨hn b hb,(f2 b hb).2⟩;refine codeAny_forLoop_any (fun n s'=>∃i σ' H',Inv X pins σ' H' s'/\tn i s'.heap/\(∀b∈fp,H' b=none)/\W i n σ' H') ?_ m0 ⟨0,σ,H2,I2,st2,fun b hb=>(f2 b hb).1,w0⟩;rintro n s3 ⟨i,σ3,H3,I3,st3,fr3,w3⟩
 rcases a2q i n σ3 H3 w3 with ⟨stop,qn⟩|⟨go,N,hN,step⟩
 ·refine A4t hp (thn (T.done X rfl rfl rfl hc i pins s3 σ3 H3 X.xe I3 (stat fr3) st3 stop) fun r s4 hq9=>?_);obtain⟨hr,I4⟩:=hq9;subst hr;exact A8j ⟨σ3,H3,I4,qn⟩
 ·refine A4t hp (thn (T.item X rfl rfl rfl hc i pins s3 σ3 H3 X.xe I3 (stat fr3) st3 go) fun r s4 hq9=>?_);obtain⟨u,hr,h4⟩:=hq9;subst hr;refine A4t hp (thn h4 fun _ s5 hq9=>?_);obtain⟨x,H5,I5,r5,y5,st5,fr5⟩:=hq9;have I5':=I5.pinned (stat fr5) (T.obj _ _ st5);refine A4t hp (thn (hg _ s5 σ3 H5 x u _ I5' r5 (step x H5 y5)) fun _ s6 hq9=>?_);obtain⟨σ6,H6,I6,q6⟩:=hq9;refine A4t hp (thn (hb _ s6 σ6 H6 _ I6 q6) fun f s7 q7=>?_)
  have again:∀{σ7:St} {H7:Hp},Inv X (pins++pinsAt fp s5.heap) σ7 H7 s7->N σ7 H7->∃m,m<n/\∃i σ' H',Inv X pins σ' H' s7/\tn i s7.heap/\(∀b∈fp,H' b=none)/\W i m σ' H':=fun {σ7 H7} I7 n7=>by
   obtain⟨m',hm,w7⟩:=hN σ7 H7 n7;refine⟨m',hm,i+1,σ7,H7,I7.unpinned,T.keep _ _ _ st5 fun b hb o e=>(I7.pin (b,o) (A2a _ (A2a _ (b6h hb e)))).1,fun b hb=>?_,w7⟩;obtain⟨o,e,d⟩:=T.obj _ _ st5 b hb;exact(I7.pin (b,o) (A2a _ (A2a _ (b6h hb e)))).2.1
  cases f with
  | next=>obtain⟨σ7,H7,I7,n7⟩:=q7;exact again I7 n7
  | cont=>obtain⟨σ7,H7,I7,n7⟩:=q7;exact again I7 n7
  | brk=>obtain⟨σ7,H7,I7,q7⟩:=q7;exact⟨σ7,H7,I7.unpinned,q7⟩
  | ret v=>obtain⟨x7,σ7,H7,I7,r7,q7⟩:=q7;exact⟨x7,σ7,H7,I7.unpinned,r7,q7⟩
end
theorem for_list {xs:List V}{g:TG}{tb:TS}{D:c1z}{σ:St}{H:Hp}(Pv:Nat->St->Hp->Prop)(h0:Pv 0 σ H)(hl:∀i σ H,i<=xs.length->Pv i σ H->SqL K H a xs)
  (hs:∀i x σ H,xs[i]? = some x->Pv i σ H->g x σ H fun σ2 H2=>tb { D with nx:=Pv (i+1),ct:=Pv (i+1),bk:=D.nx } σ2 H2) (hd:∀σ H,Pv xs.length σ H->D.nx σ H) :
  ∃W:Nat->Nat->St->Hp->Prop,(∃m,W 0 m σ H)/\∀i m σ H,W i m σ H->
   ((Itl K a).stop i H/\D.nx σ H)\/((Itl K a).go i H/\∃N:St->Hp->Prop,(∀σ' H',N σ' H'->∃m',m'<m/\W (i+1) m' σ' H')/\∀x H',(Itl K a).yld i H x H'->g x σ H' fun σ2 H2=>tb { D with nx:=N,ct:=N,bk:=D.nx } σ2 H2):=by
 refine⟨fun i m σ H=>m=xs.length-i/\i<=xs.length/\Pv i σ H,⟨xs.length,by simp,A1v _,h0⟩,?_⟩;rintro i m σ H ⟨rfl,hi,p⟩;have q:=hl i σ H hi p
 by_cases hlt:i<xs.length
 ·refine .inr ⟨⟨xs,xs[i],q,by simp[hlt]⟩,Pv (i+1),fun σ' H' p'=>⟨xs.length-(i+1),by omega,rfl,hlt,p'⟩,fun x H' y=>?_⟩;obtain⟨e,y⟩:=y;subst e;exact hs i x σ _ (y xs q) p
 ·have e:i=xs.length:=by omega
  subst e;exact .inl ⟨⟨xs,q,A0f _⟩,hd σ H p⟩
theorem for_range {n:Nat}{g:TG}{tb:TS}{D:c1z}{σ:St}{H:Hp}(Pv:Nat->St->Hp->Prop)(h0:Pv 0 σ H)
  (hs:∀i σ H,i<n->Pv i σ H->g (.int (lo+i)) σ H fun σ2 H2=>tb { D with nx:=Pv (i+1),ct:=Pv (i+1),bk:=D.nx } σ2 H2) (hd:∀σ H,Pv n σ H->D.nx σ H) :
  ∃W:Nat->Nat->St->Hp->Prop,(∃m,W 0 m σ H)/\∀i m σ H,W i m σ H->
   ((Itr lo n).stop i H/\D.nx σ H)\/((Itr lo n).go i H/\∃N:St->Hp->Prop,(∀σ' H',N σ' H'->∃m',m'<m/\W (i+1) m' σ' H')/\∀x H',(Itr lo n).yld i H x H'->g x σ H' fun σ2 H2=>tb { D with nx:=N,ct:=N,bk:=D.nx } σ2 H2):=by
 refine⟨fun i m σ H=>m=n-i/\i<=n/\Pv i σ H,⟨n,by simp,A1v _,h0⟩,?_⟩;rintro i m σ H ⟨rfl,hi,p⟩
 by_cases hlt:i<n
 ·refine .inr ⟨hlt,Pv (i+1),fun σ' H' p'=>⟨n-(i+1),by omega,rfl,hlt,p'⟩,fun x H' y=>?_⟩;obtain⟨e,y⟩:=y;subst e y;exact hs i σ _ hlt p
 ·have e:i=n:=by omega
  subst e;exact .inl ⟨A0f _,hd σ H p⟩
abbrev R2:=V->V->Hp->VK->Prop
def OpR (X:Cx)(f:Value->Value->Sem Value)(r:R2):Prop:=
 ∀(pins:List (Addr×Obj)) (s:Shared) (σ:St) (H:Hp) (x y:V) (v u:Value) (Q:VK),Inv X pins σ H s->a4s x v->a4s y u->r x y H Q->
  wpAny (model X.prog X.w) X.A (f v u) (EP X pins σ Q) X.xe s
def UnR (X:Cx)(f:Value->Sem Value)(r:V->Hp->VK->Prop):Prop:=
 ∀(pins:List (Addr×Obj)) (s:Shared) (σ:St) (H:Hp) (x:V) (v:Value) (Q:VK),Inv X pins σ H s->a4s x v->r x H Q->
  wpAny (model X.prog X.w) X.A (f v) (EP X pins σ Q) X.xe s
def b3k (X:Cx)(f:Value)(r:List V->Hp->VK->Prop):Prop:=
 ∀(pins:List (Addr×Obj)) (s:Shared) (σ:St) (H:Hp) (xs:List V) (us:List Value) (Q:VK),Inv X pins σ H s->a5f xs us->r xs H Q->
  wpAny (model X.prog X.w) X.A (call f us) (EP X pins σ Q) X.xe s
def tOp (r:R2)(ta tb:TE):TE:=fun σ H Q=>ta σ H fun x H1=>tb σ H1 fun y H2=>r x y H2 Q
def tUn (r:V->Hp->VK->Prop)(ta:TE):TE:=fun σ H Q=>ta σ H fun x H1=>r x H1 Q
def rI (C:Int->Int->Prop)(g:Int->Int->V):R2:=fun x y H Q=>∃i j,x=.int i/\y=.int j/\C i j/\Q (g i j) H
def rI0 (g:Int->Int->V):R2:=fun x y H Q=>∃i j,x=.int i/\y=.int j/\Q (g i j) H
def rU (g:Int->V):V->Hp->VK->Prop:=fun x H Q=>∃i,x=.int i/\Q (g i) H
section
variable {X:Cx}{a b c:Expr}{ta tb tc:TE}{pos:Pos}
theorem binT (ha:PE X a ta)(hb:PE X b tb){σ:St}{H:Hp}{R:V->V->Hp->Prop}(I:Inv X pins σ H s)
  (h:ta σ H fun x H1=>tb σ H1 fun y H2=>R x y H2) {Q:Value->Shared->Prop} {f:Value->Value->Sem Value}
  (hf:∀v u s2 x y H2,Inv X pins σ H2 s2->a4s x v->a4s y u->R x y H2->wpAny (model X.prog X.w) X.A (f v u) Q X.xe s2) :
  wpAny (model X.prog X.w) X.A (eval a X.env) (fun v s₁=>wpAny (model X.prog X.w) X.A (eval b X.env) (fun u s₂=>wpAny (model X.prog X.w) X.A (f v u) Q X.xe s₂) X.xe s₁) X.xe s:=by
 refine thn (ha pins s σ H _ I h) fun v s1 hq9=>?_;obtain⟨x,H1,I1,r1,q1⟩:=hq9;refine thn (hb pins s1 σ H1 _ I1 q1) fun u s2 hq9=>?_;obtain⟨y,H2,I2,r2,q2⟩:=hq9;exact hf v u s2 x y H2 I2 r1 r2 q2
theorem a0t {op:Operator}{r:R2}(ho:OpR X (binaryOp op) r)(ha:PE X a ta)(hb:PE X b tb):PE X (.BinOp a op b pos) (tOp r ta tb):=by
 intro pins s σ H Q I h;exact wpAny_BinOp (binT ha hb I h fun v u s2 x y H2 I2 rx ry q=>ho pins s2 σ H2 x y v u Q I2 rx ry q)
theorem pe_un {op:UnaryOp}{r:V->Hp->VK->Prop}(ho:UnR X (unaryOp op) r)(ha:PE X a ta):PE X (.UnaryOp op a pos) (tUn r ta):=by
 intro pins s σ H Q I h;exact UnaryOp_ (thn (ha pins s σ H _ I h) fun v s1 ⟨x,H1,I1,r1,q1⟩=>ho pins s1 σ H1 x v Q I1 r1 q1)
theorem opI {f:Value->Value->Sem Value}{C:Int->Int->Prop}{g:Int->Int->Int}
  (rule:∀(i j:Int) (t u:Tok) (s:Shared) (Q:Value->Shared->Prop) (E:Value->Shared->Prop),C i j->Q (.int (g i j) s.toks) { s with toks:=s.toks+1 }->wpAny (model X.prog X.w) X.A (f (.int i t) (.int j u)) Q E s) :
  OpR X f (rI C fun i j=>.int (g i j)):=by
 intro pins s σ H x y v u Q I rx ry h;obtain⟨i,j,rfl,rfl,hc,q⟩:=h;obtain⟨t,rfl⟩:=rx;obtain⟨t',rfl⟩:=ry;exact rule i j t t' s _ _ hc ⟨.int (g i j),H,I.tok _,⟨_,rfl⟩,q⟩
theorem opI0 {f:Value->Value->Sem Value}{g:Int->Int->Int}
  (rule:∀(i j:Int) (t u:Tok) (s:Shared) (Q:Value->Shared->Prop) (E:Value->Shared->Prop),Q (.int (g i j) s.toks) { s with toks:=s.toks+1 }->wpAny (model X.prog X.w) X.A (f (.int i t) (.int j u)) Q E s) :
  OpR X f (rI0 fun i j=>.int (g i j)):=by
 intro pins s σ H x y v u Q I rx ry h;obtain⟨i,j,rfl,rfl,q⟩:=h;obtain⟨t,rfl⟩:=rx;obtain⟨t',rfl⟩:=ry;exact rule i j t t' s _ _ ⟨.int (g i j),H,I.tok _,⟨_,rfl⟩,q⟩
theorem opB0 {f:Value->Value->Sem Value}{g:Int->Int->Bool}
  (rule:∀(i j:Int) (t u:Tok) (s:Shared) (Q:Value->Shared->Prop) (E:Value->Shared->Prop),Q (.bool (g i j)) s->wpAny (model X.prog X.w) X.A (f (.int i t) (.int j u)) Q E s) :
  OpR X f (rI0 fun i j=>.bl (g i j)):=by
 intro pins s σ H x y v u Q I rx ry h;obtain⟨i,j,rfl,rfl,q⟩:=h;obtain⟨t,rfl⟩:=rx;obtain⟨t',rfl⟩:=ry;exact rule i j t t' s _ _ ⟨.bl (g i j),H,I,rfl,q⟩
def CPow (i j:Int):Prop:=0<=j/\j<=1000000/\i.natAbs<2^64
def CMul (i j:Int):Prop:=(-(2^64)<i/\i<2^64)\/(-(2^64)<j/\j<2^64)
theorem CMul.ok {i j:Int}(h:CMul i j):IntMulOk i j:=by
 rcases h with ⟨h1,h2⟩|⟨h1,h2⟩
 ·exact .of_left (intBits_le_64 h1 h2)
 ·exact .of_right (intBits_le_64 h1 h2)
theorem two_pow_nn (k:Nat):(0:Int)<=2^k:=by
 rw[two_pow_cast];exact A5j _
theorem a3v:OpR X (binaryOp .Add) (rI0 fun i j=>.int (i+j)):=opI0 fun _ _ _ _ _ _ _ q=>add_int q
theorem b7q:OpR X (binaryOp .Sub) (rI0 fun i j=>.int (i-j)):=opI0 fun _ _ _ _ _ _ _ q=>sub_int q
theorem op_mul:OpR X (binaryOp .Mult) (rI CMul fun i j=>.int (i*j)):=opI fun _ _ _ _ _ _ _ hc q=>mul_int q hc.ok
theorem a4n:OpR X (binaryOp .Mod) (rI (fun _ j=>0<j) fun i j=>.int (i%j)):=opI fun i j _ _ _ _ _ hc q=>by
 have h1:(0:Int)<j:=hc;exact mod_int' (by omega) (by rw[Int.fmod_eq_emod_of_nonneg i (by omega)];exact q)
theorem a8g:OpR X (binaryOp .LShift) (rI CPow fun i j=>.int (i*2^j.toNat)):=opI fun _ _ _ _ _ _ _ hc q=>lshift_int_small hc.1 hc.2.1 hc.2.2 q
theorem op_shr:OpR X (binaryOp .RShift) (rI (fun _ j=>0<=j) fun i j=>.int (i/2^j.toNat)):=opI fun i j _ _ _ _ _ hc q=>
 rshift_int hc (by rw[A9a i (two_pow_nn _)];exact q)
theorem a5h:OpR X (binaryOp .BitAnd) (rI0 fun i j=>.int (A2y i j)):=opI0 fun _ _ _ _ _ _ _ q=>and_int q
theorem op_or:OpR X (binaryOp .BitOr) (rI0 fun i j=>.int (A8c i j)):=opI0 fun _ _ _ _ _ _ _ q=>or_int q
theorem a3s:OpR X (binaryOp .BitXor) (rI0 fun i j=>.int (A6c i j)):=opI0 fun _ _ _ _ _ _ _ q=>xor_int q
theorem unI {f:Value->Sem Value}{g:Int->Int}
  (rule:∀(i:Int) (t:Tok) (s:Shared) (Q:Value->Shared->Prop) (E:Value->Shared->Prop),Q (.int (g i) s.toks) { s with toks:=s.toks+1 }->wpAny (model X.prog X.w) X.A (f (.int i t)) Q E s) :
  UnR X f (rU fun i=>.int (g i)):=by
 intro pins s σ H x v Q I rx h;obtain⟨i,rfl,q⟩:=h;obtain⟨t,rfl⟩:=rx;exact rule i t s _ _ ⟨.int (g i),H,I.tok _,⟨_,rfl⟩,q⟩
theorem d2u:UnR X (unaryOp .USub) (rU fun i=>.int (-i)):=unI fun _ _ _ _ _ q=>neg_int q
end
def scal:V->V->Bool
 | .non,.non=>true|.non,.int _=>true|.int _,.non=>true|.non,.bl _=>true|.bl _,.non=>true|.non,.str _=>true|.str _,.non=>true
 | .int _,.int _=>true|.bl _,.bl _=>true|.str _,.str _=>true|.byt _,.byt _=>true
 | .int _,.str _=>true|.str _,.int _=>true|.bl _,.str _=>true|.str _,.bl _=>true
 | _,_=>false
def rEq:R2:=fun x y H Q=>scal x y=true/\Q (.bl (decide (x=y))) H
def rNe:R2:=fun x y H Q=>scal x y=true/\Q (.bl (!decide (x=y))) H
theorem dec_int {i j:Int}:decide (V.int i=V.int j)=(i==j):=by
 rw[A6v];simp
theorem dec_bl {i j:Bool}:decide (V.bl i=V.bl j)=(i==j):=by
 rw[A6v];simp
theorem dec_str {i j:Str}:decide (V.str i=V.str j)=(i==j):=by
 rw[A6v];simp
theorem dec_byt {i j:Array UInt8}:decide (V.byt i=V.byt j)=(i.toList==j.toList):=by
 rw[A6v];cases i;cases j;simp
section
variable {X:Cx}{a b c:Expr}{ta tb tc:TE}{pos:Pos}
theorem a2z {σ:St}{H:Hp}{Q:VK}{k k':Bool}(I:Inv X pins σ H s)(q:Q (.bl k) H)(e:k=k'):EP X pins σ Q (.bool k') s:=by
 subst e;exact⟨.bl k,H,I,rfl,q⟩
theorem a8r:OpR X (compareOp .Eq) rEq:=by
 intro pins s σ H x y v u Q I rx ry h;obtain⟨hs,q⟩:=h
 cases x with
 | non=>
  cases rx
  cases y with
  | non=>cases ry;exact PySem.EqNone.eq_none_none (a2z I q (by simp))
  | bl j=>cases ry;exact PySem.EqNone.eq_none_bool (a2z I q (by simp))
  | int j=>obtain⟨t',rfl⟩:=ry;exact PySem.EqNone.eq_none_int (a2z I q (by simp))
  | str j=>obtain⟨t',rfl⟩:=ry;exact PySem.EqNone.eq_none_str (a2z I q (by simp))
  | _=>exact absurd (show false=true from hs) A1d
 | bl i=>
  cases rx
  cases y with
  | non=>cases ry;exact PySem.EqNone.eq_bool_none (a2z I q (by simp))
  | bl j=>cases ry;exact eq_bool (a2z I q dec_bl)
  | str j=>obtain⟨t',rfl⟩:=ry;exact PySem.EqMixed.eq_bool_str (a2z I q (by simp))
  | _=>exact absurd (show false=true from hs) A1d
 | int i=>
  obtain⟨t,rfl⟩:=rx
  cases y with
  | non=>cases ry;exact PySem.EqNone.eq_int_none (a2z I q (by simp))
  | int j=>obtain⟨t',rfl⟩:=ry;exact eq_int (a2z I q dec_int)
  | str j=>obtain⟨t',rfl⟩:=ry;exact PySem.EqMixed.eq_int_str (a2z I q (by simp))
  | _=>exact absurd (show false=true from hs) A1d
 | str i=>
  obtain⟨t,rfl⟩:=rx
  cases y with
  | non=>cases ry;exact PySem.EqNone.eq_str_none (a2z I q (by simp))
  | bl j=>cases ry;exact PySem.EqMixed.eq_str_bool (a2z I q (by simp))
  | int j=>obtain⟨t',rfl⟩:=ry;exact PySem.EqMixed.eq_str_int (a2z I q (by simp))
  | str j=>obtain⟨t',rfl⟩:=ry;exact eq_str (a2z I q dec_str)
  | _=>exact absurd (show false=true from hs) A1d
 | byt i=>
  obtain⟨t,rfl⟩:=rx
  cases y with
  | byt j=>obtain⟨t',rfl⟩:=ry;exact PySem.W.eq_bytes (a2z I q dec_byt)
  | _=>exact absurd (show false=true from hs) A1d
 | _=>cases y<;>exact absurd (show false=true from hs) A1d
theorem op_ne:OpR X (compareOp .NotEq) rNe:=by
 intro pins s σ H x y v u Q I rx ry h;obtain⟨hs,q⟩:=h
 cases x with
 | non=>
  cases rx
  cases y with
  | non=>cases ry;exact PySem.EqNone.ne_none_none (a2z I q (by simp))
  | bl j=>cases ry;exact PySem.EqNone.ne_none_bool (a2z I q (by simp))
  | int j=>obtain⟨t',rfl⟩:=ry;exact PySem.EqNone.ne_none_int (a2z I q (by simp))
  | str j=>obtain⟨t',rfl⟩:=ry;exact PySem.EqNone.ne_none_str (a2z I q (by simp))
  | _=>exact absurd (show false=true from hs) A1d
 | bl i=>
  cases rx
  cases y with
  | non=>cases ry;exact PySem.EqNone.ne_bool_none (a2z I q (by simp))
  | bl j=>cases ry;exact ne_bool (a2z I q (congrArg not dec_bl))
  | str j=>obtain⟨t',rfl⟩:=ry;exact PySem.EqMixed.ne_bool_str (a2z I q (by simp))
  | _=>exact absurd (show false=true from hs) A1d
 | int i=>
  obtain⟨t,rfl⟩:=rx
  cases y with
  | non=>cases ry;exact PySem.EqNone.ne_int_none (a2z I q (by simp))
  | int j=>obtain⟨t',rfl⟩:=ry;exact ne_int (a2z I q (congrArg not dec_int))
  | str j=>obtain⟨t',rfl⟩:=ry;exact PySem.EqMixed.ne_int_str (a2z I q (by simp))
  | _=>exact absurd (show false=true from hs) A1d
 | str i=>
  obtain⟨t,rfl⟩:=rx
  cases y with
  | non=>cases ry;exact PySem.EqNone.ne_str_none (a2z I q (by simp))
  | bl j=>cases ry;exact PySem.EqMixed.ne_str_bool (a2z I q (by simp))
  | int j=>obtain⟨t',rfl⟩:=ry;exact PySem.EqMixed.ne_str_int (a2z I q (by simp))
  | str j=>obtain⟨t',rfl⟩:=ry;exact ne_str (a2z I q (congrArg not dec_str))
  | _=>exact absurd (show false=true from hs) A1d
 | byt i=>
  obtain⟨t,rfl⟩:=rx
  cases y with
  | byt j=>obtain⟨t',rfl⟩:=ry;exact PySem.W.ne_bytes (a2z I q (congrArg not dec_byt))
  | _=>exact absurd (show false=true from hs) A1d
 | _=>cases y<;>exact absurd (show false=true from hs) A1d
theorem op_lt:OpR X (compareOp .Lt) (rI0 fun i j=>.bl (decide (i<j))):=opB0 fun _ _ _ _ _ _ _ q=>lt_int q
theorem op_gt:OpR X (compareOp .Gt) (rI0 fun i j=>.bl (decide (j<i))):=opB0 fun _ _ _ _ _ _ _ q=>gt_int q
theorem op_ge:OpR X (compareOp .GtE) (rI0 fun i j=>.bl (decide (j<=i))):=opB0 fun _ _ _ _ _ _ _ q=>ge_int q
theorem op_isN:OpR X (compareOp .Is) (fun x y H Q=>y=.non/\Q (.bl (decide (x=.non))) H):=by
 intro pins s σ H x y v u Q I rx ry h;obtain⟨rfl,q⟩:=h;cases ry;refine is_none_gen (a2z I q ?_)
 cases x<;>first
  | (cases rx;rfl)
  | (obtain⟨t,rfl⟩:=rx;rfl)
theorem op_notN:OpR X (compareOp .IsNot) (fun x y H Q=>y=.non/\Q (.bl (!decide (x=.non))) H):=by
 intro pins s σ H x y v u Q I rx ry h;obtain⟨rfl,q⟩:=h;cases ry;refine isnot_none_gen (a2z I q ?_)
 cases x<;>first
  | (cases rx;rfl)
  | (obtain⟨t,rfl⟩:=rx;rfl)
theorem a1j (b:Expr)(h:op≠.In:=by decide)(h2:op≠.NotIn:=by decide):behindInMarks op b=false:=by
 have e1:(op==CmpOp.In)=false:=by cases op<;>first|rfl|exact absurd rfl h
 have e2:(op==CmpOp.NotIn)=false:=by cases op<;>first|rfl|exact absurd rfl h2
 cases b<;>simp[behindInMarks,e1,e2]
theorem b5w {r:R2}(ho:OpR X (compareOp op) r)(ha:PE X a ta)(hb:PE X b tb)(hm:behindInMarks op b=false):PE X (.Compare a [op] [b] pos) (tOp r ta tb):=by
 intro pins s σ H Q I h;exact wpAny_Compare1 (binT ha hb I h fun v u s2 x y H2 I2 rx ry q=>ho pins s2 σ H2 x y v u Q I2 rx ry q) hm
def tTest (t:TE):TT:=fun σ H Q=>t σ H fun x H'=>∃k,x=.bl k/\Q k H'
theorem a1b {r:R2}(ho:OpR X (compareOp op) r)(ha:PE X a ta)(hb:PE X b tb)(hm:behindInMarks op b=false):PT X (.Compare a [op] [b] pos) (tTest (tOp r ta tb)):=by
 intro pins s σ H Q I h
 refine wpAny_isTrue_Compare1 (thn (ha pins s σ H _ I h) fun v s1 ⟨x,H1,I1,r1,q1⟩=>thn (hb pins s1 σ H1 _ I1 q1) fun u s2 ⟨y,H2,I2,r2,q2⟩=>
  thn (ho pins s2 σ H2 x y v u _ I2 r1 r2 q2) fun c s3 ⟨z,H3,I3,r3,k,e,q3⟩=>?_) hm
 subst e;cases r3;exact A5u ⟨H3,I3,q3⟩
theorem line63:(sizeLine:Nat)<2^63:=by rw[A8m];decide
theorem vals1 {x:V}(r:a5f [x] us):∃u,us=[u]/\a4s x u:=by
 cases r with
 | cons r1 r2=>cases r2;exact⟨_,rfl,r1⟩
theorem vals2 {x y:V}(r:a5f [x,y] us):∃u w',us=[u,w']/\a4s x u/\a4s y w':=by
 cases r with
 | cons r1 r2=>
  cases r2 with
  | cons r3 r4=>cases r4;exact⟨_,_,rfl,r1,r3⟩
theorem call_max2 (hc:X.calm=true):b3k X (.builtin "max") (fun xs H Q=>∃i j,xs=[.int i,.int j]/\Q (.int (if j>i then j else i)) H):=by
 intro pins s σ H xs us Q I r h;obtain⟨i,j,rfl,q⟩:=h;obtain⟨u,w',rfl,⟨t,rfl⟩,⟨t',rfl⟩⟩:=vals2 r;refine max_two_ints (I.ok.hd hc) fun h' tk k=>⟨_,H,I.kept k,?_,q⟩
 by_cases hj:j>i
 ·rw[if_pos hj,if_pos hj];exact⟨_,rfl⟩
 ·rw[if_neg hj,if_neg hj];exact⟨_,rfl⟩
end
structure ObjM (h:Heap)(x dx C:Addr)(mA:Str->Option Value):Prop where
 obj:h.get? x=some (A4f C dx)
 ns:h.Ns1 dx mA
 ne:dx≠x
theorem lookIn_ns {mA:Str->Option Value}(n:h.Ns1 dx mA):∃od,h.get? dx=some od/\∀name,A9t name od=some (mA name):=by
 obtain⟨o,es,ep,ho,hd,hk,_,hm⟩:=n;refine⟨o,ho,fun name=>?_⟩;have e:=hm name;unfold nsFind findBy at e;rw[<- Array.find?_toList] at e;unfold A9t;rw[hd];dsimp only
 split
 ·rename_i y q;rw[q] at e;exact congrArg some e
 ·rename_i q;rw[q] at e
  have a:es.toList.any (·.refKey)=false:=by
   rw[B0c];intro y hy;obtain⟨z,t,hkey⟩:=hk y (Array.mem_toList_iff.mp hy);simp[DictEntry.refKey,hkey]
  have a':¬es.toList.any (·.refKey)=true:=by rw[a];exact A1d
  rw[if_neg a'];exact congrArg some e
theorem ObjM.look {x:Addr}{mA:Str->Option Value}(I:ObjM h x dx C mA):∃od,PySem.W.InstAt h x (A4f C dx) C (some od)/\∀name,A9t name od=some (mA name):=
 let ⟨od,ho,hl⟩:=lookIn_ns I.ns
 ⟨od,⟨I.obj,rfl,rfl,ho⟩,hl⟩
section
variable {prog:Program}{w:World}{A:Around}{E:Value->Shared->Prop}{s:Shared}{K:A0a}{x dx C f:Addr}{mA:Str->Option Value}{name:Str}{v:Value}
theorem get_map {expr:Bool}{Q:Value->Shared->Prop}(X:K.In s.heap)(I:ObjM s.heap x dx C mA)(hg:A6j K C name=true)(hh:A7h K C=true)
  (ha:A2h K (.ref C) name=some none) (hv:mA name=some v) (hv':PySem.W.handedIn v=true) (h:Q v { s with toks:=s.toks+1 }) :
  wpAny (model prog w) A (getAttr (.ref x) name expr) Q E s:=by
 obtain⟨od,J,hl⟩:=I.look;exact PySem.W.get_value X J (A8n hg).1 (PySem.W.findObj_own hh ha rfl (by rw[hl,hv])) hv' h
theorem get_meth {Q:Value×List Value->Shared->Prop}(X:K.In s.heap)(I:ObjM s.heap x dx C mA)(hg:A6j K C name=true)
  (hf:A2h K (.ref C) name=some (some (.ref f))) (ht:A0r K (.ref f)=true) (hv:mA name=none) (h:Q (.ref f,[.ref x]) s) :
  wpAny (model prog w) A (getMethod (.ref x) name pl) Q E s:=by
 obtain⟨od,J,hl⟩:=I.look;exact PySem.W.method_fn X J (A8n hg).1 (A8n hg).2 hf (beq_iff_eq.mp ht) (by show (A9t name od).map (·.isSome)=some false;rw[hl,hv];rfl) h
theorem set_map {ns:List Str}{Q:Unit->Shared->Prop}(X:K.In s.heap)(I:ObjM s.heap x dx C mA)
  (hs:A2h K (.ref C) "__setattr__" = some (some (.builtin "object.__setattr__"))) (hp:B0d K C=true) (ht:B1h K C name=some none) (hh:A7h K C=true)
  (hw:B3h mA ns) (hsz:ns.length<=sizeLine)
  (h:∀h',ObjM h' x dx C (fun y=>if y=name then some v else mA y)->A9d dx s.heap h'->Q () { s with heap:=h',toks:=s.toks+2 }) :
  wpAny (model prog w) A (setAttr (.ref x) name v) Q E s:=by
 obtain⟨od,J,hl⟩:=I.look;refine PySem.W.set_plain X J hs (PySem.W.osa_open (s:={ s with toks:=s.toks+1 }) (r:=none) X J hp ht fun b=>?_);obtain⟨cd,hc,hd'⟩:=PySem.W.any_some hh;have hx:s.heap.get? x=some ⟨.ref C,some dx,.plain,#[]⟩:=I.obj;refine A0b (A0h (A0b (A0b (wpAny_loadPart hx (A0b (PySem.W.Looks.here (s:={ s with toks:=s.toks+1 }) (PySem.W.looks_clsIn X hc) ?_))))));rw[hd'];refine A0h (a:=some dx) (A0b (A0h (A0b ?_)));refine wpAny_nsSet1 (s:={ s with toks:=s.toks+1 }) I.ns fun h' hn2 hs2=>?_;obtain⟨oD,esD,epD,hoD,hdD,hcD⟩:=hn2.count (PySem.Within.cons name v hw);refine A0b (wpAny_lookBehind hoD (by rw[hdD];exact pastItsLine_dict (A0y hcD (by rw[A1a];omega))) ?_);exact A0h (h _ ⟨(hs2.2 _ (A1e I.ne)).trans I.obj,hn2,I.ne⟩ hs2)
theorem make_map {R:Result->Shared->Prop}{vs:List Value}(X:K.In s.heap)(hm:B1j K C=true)
  (hi:A2h K (.ref C) "__init__" = some (some (.ref f))) (hf:PySem.W.typeIn K (.ref f)=some (.type "function"))
  (h:codeAny (model prog w) (A.under (.builtin "type.__call__" ⟨.ref C::vs,kw⟩)) (.call (.ref f) ⟨.ref (s.heap.objs.size+1)::vs,kw⟩) (PySem.W.InitBack (s.heap.objs.size+1) R)
   { s with heap:=(s.heap.push A3n).push (A4f C s.heap.objs.size) }) :
  codeAny (model prog w) A (.call (.ref C) ⟨vs,kw⟩) R s:=by
 obtain⟨hh,g,d,t,os⟩:=s;exact PySem.W.make_core (PySem.W.makes_of X hm) (PySem.W.looks_findIn X hi) (fun self=>PySem.W.bind_fn X self hf) (.inl rfl) h
end
def b7h (f:Str)(v:V):List (Str×V)->List (Str×V)
 | []=>[(f,v)]
 | (g,x)::r=>if g=f then (g,v)::r else (g,x)::b7h f v r
theorem d0e (f g:Str)(v:V):∀fs:List (Str×V),(b7h f v fs).lookup g=if g=f then some v else fs.lookup g
 | []=>by
  show A3j g [(f,v)]=_
  by_cases h:g=f
  ·have hb:(g==f)=true:=beq_iff_eq.mpr h;simp only[A3j,hb,if_pos h]
  ·have hb:(g==f)=false:=beq_eq_false_iff_ne.mpr h;simp only[A3j,hb,if_neg h]
 | (k,x)::r=>by
  have ih:=d0e f g v r;rw[show b7h f v ((k,x)::r)=(if k=f then (k,v)::r else (k,x)::b7h f v r) from rfl]
  by_cases hk:k=f
  ·rw[if_pos hk]
   by_cases h:g=k
   ·have hb:(g==k)=true:=beq_iff_eq.mpr h;simp only[A3j,hb,if_pos (h.trans hk)]
   ·have hb:(g==k)=false:=beq_eq_false_iff_ne.mpr h;simp only[A3j,hb,if_neg (fun e:g=f=>h (e.trans hk.symm))]
  ·rw[if_neg hk]
   by_cases h:g=k
   ·have hb:(g==k)=true:=beq_iff_eq.mpr h;simp only[A3j,hb,if_neg (fun e:g=f=>hk (h.symm.trans e))]
   ·have hb:(g==k)=false:=beq_eq_false_iff_ne.mpr h;simp only[A3j,hb];exact ih
theorem c9u (f:Str)(v:V):∀fs:List (Str×V),f∈(b7h f v fs).map (·.1)/\∀g,g∈fs.map (·.1)->g∈(b7h f v fs).map (·.1)
 | []=>⟨by simp[b7h],fun g h=>by simp at h⟩
 | (k,x)::r=>by
  obtain⟨i1,i2⟩:=c9u f v r;rw[show b7h f v ((k,x)::r)=(if k=f then (k,v)::r else (k,x)::b7h f v r) from rfl]
  by_cases hk:k=f
  ·rw[if_pos hk];subst hk;exact⟨by simp,fun g h=>by simpa using h⟩
  ·rw[if_neg hk];refine⟨?_,fun g h=>?_⟩
   ·rw[A0m];exact A0d _ i1
   ·rw[A0m] at h ⊢
    rcases List.mem_cons.mp h with e|e
    ·exact List.mem_cons.mpr (.inl e)
    ·exact A0d _ (i2 g e)
theorem a7w (f:Str)(v:V):∀fs:List (Str×V),(b7h f v fs).length<=fs.length+1
 | []=>by simp[b7h]
 | (k,x)::r=>by
  have ih:=a7w f v r;rw[show b7h f v ((k,x)::r)=(if k=f then (k,v)::r else (k,x)::b7h f v r) from rfl]
  by_cases hk:k=f
  ·rw[if_pos hk,A1a,A1a];omega
  ·rw[if_neg hk,A1a,A1a];omega
theorem RelO.some_of {v:V}{o:Option Value}(r:RelO (some v) o):∃u,o=some u/\a4s v u:=by
 cases o with
 | none=>exact(show False from r).elim
 | some u=>exact⟨u,rfl,r⟩
theorem RelO.none_of {o:Option Value}(r:RelO none o):o=none:=by
 cases o with
 | none=>rfl
 | some u=>exact(show False from r).elim
theorem handed_of {v:V}(r:a4s v u):PySem.W.handedIn u=true:=by
 cases v with
 | non=>cases (show u=B3d from r);rfl
 | bl b=>cases (show u=B1v b from r);rfl
 | int i=>obtain⟨t,e⟩:=(show ∃t,u=A6u i t from r);cases e;rfl
 | str x=>obtain⟨t,e⟩:=(show ∃t,u=B2q x t from r);cases e;rfl
 | byt b=>obtain⟨t,e⟩:=(show ∃t,u=Value.bytes b t from r);cases e;rfl
 | flt b=>obtain⟨t,e⟩:=(show ∃t,u=B3t b t from r);cases e;rfl
 | ref a=>cases (show u=A1w a from r);rfl
 | ty n=>cases (show u=Value.type n from r);rfl
section
variable {P:Program}{w:World}{H H':Hp}{h h':Heap}{a C dx:Addr}{fs fs':List (Str×V)}
theorem d6n (hok:HOk P w H h)(e:H a=some (.ins C dx fs)):∃mA,ObjM h a dx C mA/\(∀f,RelO (fs.lookup f) (mA f))/\B3h mA (fs.map (·.1))/\fs.length<=1000/\H dx=some (.own a):=by
 obtain⟨d,z,ne,ob,mA,n,r,q⟩:=(show a5g P w H h a (.ins C dx fs) from hok a _ e);exact⟨mA,⟨ob,n,ne⟩,r,q,z,d⟩
end
structure Cls (K:A0a)(C:Addr):Prop where
 pg:A6j K C Str.empty=true
 hd:A7h K C=true
 po:B0d K C=true
 sa:A2h K (.ref C) "__setattr__" = some (some (.builtin "object.__setattr__"))
theorem Cls.get (c:Cls K C)(f:Str):A6j K C f=true:=c.pg
def a6g (K:A0a)(C:Addr)(f:Str):Prop:=A2h K (.ref C) f=some none
theorem a6g.taker {f:Str}(n:a6g K C f):B1h K C f=some none:=by
 unfold B1h;rw[show A2h K (.ref C) f=some none from n];rfl
structure Meth (K:A0a)(C:Addr)(m:Str)(f:Addr):Prop where
 at_:A2h K (.ref C) m=some (some (.ref f))
 fn:A0r K (.ref f)=true
 kp:A1s K (.ref f)=true
section
variable {X:Cx}{pins:List (Addr×Obj)}{σ:St}{H:Hp}{s:Shared}{a C dx:Addr}{fs:List (Str×V)}{f:Str}{v:V}{A:Around}{E:Value->Shared->Prop}
theorem getattr_ok {b:Bool}{Q:Value->Shared->Prop}(I:Inv X pins σ H s)(e:H a=some (.ins C dx fs))(c:Cls X.K C)(n:a6g X.K C f)(l:fs.lookup f=some v)
  (h:∀u s',Inv X pins σ H s'->a4s v u->Q u s'):wpAny (model X.prog X.w) A (getAttr (.ref a) f b) Q E s:=by
 obtain⟨mA,O,r,_,_,_⟩:=d6n I.hok e;obtain⟨u,hu,ru⟩:=RelO.some_of (v:=v) (o:=mA f) (by rw[<- l];exact r f);exact get_map I.kIn O (c.get f) c.hd n hu (handed_of ru) (h u _ (I.tok _) ru)
theorem d2x {m:Str}{g:Addr}{Q:Value×List Value->Shared->Prop}(I:Inv X pins σ H s)(e:H a=some (.ins C dx fs))(c:Cls X.K C)(k:Meth X.K C m g)(l:fs.lookup m=none)
  (h:Q (.ref g,[.ref a]) s):wpAny (model X.prog X.w) A (getMethod (.ref a) m pl) Q E s:=by
 obtain⟨mA,O,r,_,_,_⟩:=d6n I.hok e;have hn:mA m=none:=RelO.none_of (by rw[<- l];exact r m);exact get_meth I.kIn O (c.get m) k.at_ k.fn hn h
theorem setattr_ok {y:V}{Q:Unit->Shared->Prop}(I:Inv X pins σ H s)(e:H a=some (.ins C dx fs))(c:Cls X.K C)(n:a6g X.K C f)(hl:fs.length<1000)(ry:a4s y u)
  (h:∀s',Inv X pins σ (upd H a (.ins C dx (b7h f y fs))) s'->Q () s'):wpAny (model X.prog X.w) A (setAttr (.ref a) f u) Q E s:=by
 obtain⟨mA,O,r,wi,_,ho⟩:=d6n I.hok e;have hz:(fs.map (·.1)).length<=sizeLine:=by rw[A0c,A8m];omega
 refine set_map I.kIn O c.sa c.po n.taker c.hd wi hz fun h' O' sb=>h _ ?_;have hd:∃o,h'.get? dx=some o:=let ⟨o,_,_,e',_⟩:=O'.ns;⟨o,e'⟩;refine I.write (x:=a) (e:=dx) (by rw[e];exact A4e) (.inr ho) (fun b q hb z=>(sb.2 b hb).trans z) hd ?_;refine⟨by rw[a0q O.ne];exact ho,?_,O.ne,O'.obj,_,O'.ns,fun g=>?_,fun g hg=>?_⟩
 ·have:=a7w f y fs;omega
 ·show RelO ((b7h f y fs).lookup g) (if g=f then some u else mA g);rw[d0e]
  by_cases q:g=f
  ·rw[if_pos q,if_pos q];exact ry
  ·rw[if_neg q,if_neg q];exact r g
 ·by_cases q:g=f
  ·rw[q];exact(c9u f y fs).1
  ·refine(c9u f y fs).2 g (wi g fun z=>hg ?_);show (if g=f then some u else mA g)=none;rw[if_neg q];exact z
theorem Inv.made (I:Inv X pins σ H s):Inv X pins σ (upd (upd H s.heap.objs.size (.own (s.heap.objs.size+1))) (s.heap.objs.size+1) (.ins C s.heap.objs.size []))
  { s with heap:=(s.heap.push A3n).push (A4f C s.heap.objs.size) }:=by
 have e1:(s.heap.push A3n).get? s.heap.objs.size=some A3n:=Heap.get?_push_size s.heap rfl
 have e2:((s.heap.push A3n).push (A4f C s.heap.objs.size)).get? (s.heap.objs.size+1)=some (A4f C s.heap.objs.size):=by
  have:=Heap.get?_push_size (s.heap.push A3n) (o:=A4f C s.heap.objs.size) rfl
  rwa [A5e] at this
 have e3:(s.heap.push A3n).Ns s.heap.objs.size (fun _=>none):=⟨A3n,#[],_,e1,rfl,(fun e he=>absurd he (by simp)),fun _=>rfl⟩;have I1:=I.laid (a:=s.heap.objs.size) (o:=.own (s.heap.objs.size+1)) (h':=s.heap.push A3n) (t':=s.toks) (fun b u q=>Heap.get?_push_of_some _ q) (A0f _) ⟨_,e1⟩;refine I1.laid (a:=s.heap.objs.size+1) (o:=.ins C s.heap.objs.size []) (t':=s.toks) (fun b u q=>Heap.get?_push_of_some _ q) (B3j (A5e _ _)) ?_;have ne:s.heap.objs.size≠s.heap.objs.size+1:=A1j (A3t _);refine⟨by rw[a0q ne,a0b],A1v _,ne,e2,fun _=>none,(Heap.Ns1.of_empty e3).at fun o q=>Heap.get?_push_of_some _ q,fun _=>A4e,fun y hy=>absurd rfl hy⟩
theorem attr_of {prog:Program}{w:World}{env:Env}{f:Str}{s:Shared}{Q:Value->Shared->Prop}(hb:attributeBase e f env (eval e env)=eval e env)
  (h:wpAny (model prog w) A (eval e env) (fun o s₁=>wpAny (model prog w) A (getAttr o f true) Q E s₁) E s):wpAny (model prog w) A (eval (.Attribute e f pos) env) Q E s:=
 Attribute_any_ h (by rw[arm_eval_Attribute,hb])
end
def tFld (K:A0a)(ta:TE)(f:Str):TE:=fun σ H Q=>ta σ H fun x H1=>∃a C dx fs v,x=.ref a/\H1 a=some (.ins C dx fs)/\Cls K C/\a6g K C f/\fs.lookup f=some v/\Q v H1
def sFld (K:A0a)(ta tv:TE)(f:Str):TS:=fun D σ H=>tv σ H fun y H1=>ta σ H1 fun x H2=>∃a C dx fs,x=.ref a/\H2 a=some (.ins C dx fs)/\Cls K C/\a6g K C f/\fs.length<1000/\
 D.nx σ (upd H2 a (.ins C dx (b7h f y fs)))
section
variable {X:Cx}{o e value:Expr}{f:Str}{pos pos' tpos:Pos}{ta tv:TE}
theorem a2g (he:PE X e ta)(hb:attributeBase e f X.env (eval e X.env)=eval e X.env):PE X (.Attribute e f pos) (tFld X.K ta f):=by
 intro pins s σ H Q I h;refine attr_of hb (thn (he pins s σ H _ I h) fun u s1 hq9=>?_);obtain⟨x,H1,I1,rx,a,C,dx,fs,v,ex,ea,c,n,l,q⟩:=hq9;subst ex;obtain rfl:u=A1w a:=rx;exact getattr_ok I1 ea c n l fun u' s2 I2 ru=>⟨v,H1,I2,ru,q⟩
theorem a9a (ha:PE X o ta)(hv:PE X value tv)(hs:swapsWith value (some (.Attribute o f pos')) pos.line X.env=pure false):PS X (.Assign [.Attribute o f pos'] value pos) (sFld X.K ta tv f):=by
 intro pins s σ H D I h;refine plainObj_wpAny_Assign_Attribute (thn (hv pins s σ H _ I h) fun u s1 ⟨y,H1,I1,ry,q⟩=>thn (ha pins s1 σ H1 _ I1 q) fun ov s2 ⟨x,H2,I2,rx,a,C,dx,fs,ex,ea,c,n,l,q2⟩=>?_) hs;subst ex;obtain rfl:ov=A1w a:=rx;exact setattr_ok I2 ea c n l ry fun s3 I3=>⟨σ,_,I3,q2⟩
end
section
variable {X:Cx}{pins:List (Addr×Obj)}{σ:St}{H:Hp}{s:Shared}{A:Around}{E:Value->Shared->Prop}{Q:Value->Shared->Prop}{c:Value}{b:Bool}
inductive b8x (K:A0a) (H:Hp):V->Value->Prop where
 | non:b8x K H .non (.type "NoneType")
 | bl (x:Bool):b8x K H (.bl x) (.type "bool")
 | int (i:Int):b8x K H (.int i) (.type "int")
 | str (x:Str):b8x K H (.str x) (.type "str")
 | flt (x:UInt64):b8x K H (.flt x) (.type "float")
 | lst {a:Addr} {xs:List V} (e:H a=some (.lst xs)):b8x K H (.ref a) (.type "list")
 | frz {a:Addr} {o:Obj} {xs:List V} (e:H a=some (.frz o (.lst xs))):b8x K H (.ref a) (.type "list")
 | tup {a:Addr} {xs:List V} (e:H a=some (.tup xs)):b8x K H (.ref a) (.type "tuple")
 | dK {a:Addr} {kvs:List (Key×V)} (e:H a=some (.dK kvs)):b8x K H (.ref a) (.type "dict")
 | dT {a:Addr} {kvs:List (List Key×V)} (e:H a=some (.dT kvs)):b8x K H (.ref a) (.type "dict")
 | ins {a C dx:Addr} {fs:List (Str×V)} (e:H a=some (.ins C dx fs)) (cl:Cls K C) (ha:A2h K (.ref C) "__class__" = some (some (.builtin "object.__class__")))
   (hn:A5v K (.builtin "object.__class__") "__get__" = some (some (.builtin "getset_descriptor.__get__"))) (htk:PySem.W.takesIn K (.builtin "object.__class__")=some true)
   (hm:B2s K C (.type "object")=some true):b8x K H (.ref a) (.ref C)
theorem isinst_ok {x:V}{t:Value}(I:Inv X pins σ H s)(rx:a4s x u)(ty:b8x X.K H x t)(e:A3u X.K t c=some b)(h:∀tk,Q (.bool b) { s with toks:=tk }) :
  wpAny (model X.prog X.w) A (call (.builtin "isinstance") [u,c]) Q E s:=by
 cases ty with
 | non=>cases (show u=B3d from rx);exact A3d PySem.W.kitx_none I.kIn A4e e (fun z=>nomatch z) h
 | bl y=>cases (show u=B1v y from rx);exact A3d PySem.W.kitx_bool I.kIn A4e e (fun z=>nomatch z) h
 | int i=>obtain⟨t,q⟩:=(show ∃t,u=A6u i t from rx);cases q;exact A3d PySem.W.kitx_int I.kIn A4e e (fun z=>nomatch z) h
 | str y=>obtain⟨t,q⟩:=(show ∃t,u=B2q y t from rx);cases q;exact A3d PySem.W.kitx_str I.kIn A4e e (fun z=>nomatch z) h
 | flt y=>obtain⟨t,q⟩:=(show ∃t,u=B3t y t from rx);cases q;exact A3d PySem.W.kitx_float I.kIn A4e e (fun z=>nomatch z) h
 | @lst a xs ea=>
  cases (show u=A1w a from rx);obtain⟨_,_,n,_,h1⟩:=(show a5g X.prog X.w H s.heap a (.lst xs) from I.hok a _ ea);exact A3d B3e I.kIn ⟨_,h1,rfl⟩ e (fun z=>nomatch z) h
 | @frz a ob xs ea=>
  cases (show u=A1w a from rx);obtain⟨_,_,_,n,_,h1⟩:=(show a5g X.prog X.w H s.heap a (.frz ob (.lst xs)) from I.hok a _ ea);exact A3d B3e I.kIn ⟨_,h1,rfl⟩ e (fun z=>nomatch z) h
 | @tup a xs ea=>
  cases (show u=A1w a from rx);obtain⟨_,_,_,p⟩:=(show a5g X.prog X.w H s.heap a (.tup xs) from I.hok a _ ea);obtain⟨o,h1,h2,_⟩:=p;exact A3d PySem.W.kitx_tuple I.kIn ⟨o,h1,h2⟩ e (fun z=>nomatch z) h
 | @dK a kvs ea=>
  cases (show u=A1w a from rx);obtain⟨_,_,vs,_,p⟩:=(show a5g X.prog X.w H s.heap a (.dK kvs) from I.hok a _ ea);obtain⟨o,es,ep,h1,h2,_⟩:=p;exact A3d B3f I.kIn ⟨o,h1,h2.1⟩ e (fun z=>nomatch z) h
 | @dT a kvs ea=>
  cases (show u=A1w a from rx);obtain⟨_,_,xs,_,o,es,ep,h1,h2,_⟩:=(show a5g X.prog X.w H s.heap a (.dT kvs) from I.hok a _ ea);exact A3d B3f I.kIn ⟨o,h1,h2.1⟩ e (fun z=>nomatch z) h
 | @ins a C dx fs ea cl ha hn htk hm=>
  cases (show u=A1w a from rx);obtain⟨mA,O,_⟩:=d6n I.hok ea;obtain⟨od,J,_⟩:=O.look;exact A3d (PySem.W.kitx_own (cl.get _) cl.hd ha hn htk hm) I.kIn J e (fun z=>nomatch z) h
end
structure b4h (k:Nat)(A:Around):Prop where
 hd:A.handled=none
 dp:A.depth+3*k+5<recursionLimit
 un:A.units+16*k+200<cLine
theorem b4h.mono (r:b4h k A)(h:j<=k):b4h j A:=⟨r.hd,by have:=r.dp;omega,by have:=r.un;omega⟩
theorem b4h.deeper {k:Nat}{A:Around}(r:b4h (k+1) A)(env:Env):b4h k (A.deeper env):=
 ⟨r.hd,by have:=r.dp;show A.depth+1+3*k+5<_;omega,by have:=r.un;show A.units+3+16*k+200<_;omega⟩
theorem make_depth :(A.under (.builtin "type.__call__" ⟨.ref C::us,kw⟩)).depth=A.depth+1:=by
 first|rfl|simp[B3k,Code.weight,Code.isCreation,Code.isGuard,Code.isCaller,Code.frames,B3m,guardIds]
theorem make_units :(A.under (.builtin "type.__call__" ⟨.ref C::us,kw⟩)).units=A.units+1:=by
 first|rfl|simp[B3k,Code.cUnits,Code.frames,B3m]
theorem b4h.make (r:b4h (k+1) A)(C:Addr)(us:List Value)(kw:List (Str×Value)):b4h k (A.under (.builtin "type.__call__" ⟨.ref C::us,kw⟩)):=
 ⟨r.hd,by have:=r.dp;rw[make_depth];omega,by have:=r.un;rw[make_units];omega⟩
theorem b4h.depth {k:Nat}{A:Around}(r:b4h k A):A.depth<recursionLimit:=by have:=r.dp;omega
theorem b4h.units {k:Nat}{A:Around}(r:b4h k A):A.units+64<cLine:=by have:=r.un;omega
def tNil:TA:=fun _ H Q=>Q [] H
def d1f (ta:TE)(tr:TA):TA:=fun σ H Q=>ta σ H fun x H1=>tr σ H1 fun xs H2=>Q (x::xs) H2
section
variable {X:Cx}{e:Expr}{es:List Expr}{te:TE}{t:TA}{pos:Pos}
theorem a0j:PA X [] tNil:=fun _ _ _ _ H Q I h=>Calls.spliced_nil ⟨[],H,I,.nil,h⟩
theorem a0a (ha:PE X e te)(hr:PA X es t)(hs:starEach (e::es) X.env=(false,eval e X.env)::starEach es X.env:=by rfl):PA X (e::es) (d1f te t):=by
 intro pos pins s σ H Q I h;rw[hs];show wpAny _ _ (spliced ((false,eval e X.env)::backTo pos (starEach es X.env))) _ _ s;refine A9g (thn (ha pins s σ H _ I h) fun u s1 hq9=>?_);obtain⟨x,H1,I1,r1,q1⟩:=hq9;exact thn (hr pos pins s1 σ H1 _ I1 q1) fun us s2 ⟨xs,H2,I2,r2,q2⟩=>⟨x::xs,H2,I2,.cons r1 r2,q2⟩
def tTup (t:TA):TE:=fun σ H Q=>t σ H fun xs H1=>xs.length<=sizeLine/\∀p,H1 p=none->Q (.ref p) (upd H1 p (.tup xs))
def tLst (t:TA):TE:=fun σ H Q=>t σ H fun xs H1=>xs.length<=sizeLine/\∀p,H1 p=none->Q (.ref p) (upd H1 p (.lst xs))
theorem a2h {x1}(h:PA X es t):PE X (.Tuple es x1 pos) (tTup t):=by
 intro pins s σ H Q I hq;refine wpAny_Tuple_spliced (thn (h pos pins s σ H _ I hq) fun us s1 ⟨xs,H1,I1,r,z,q⟩=>⟨by rw[<- r.length];exact z,?_⟩);have hf:H1 s1.heap.objs.size=none:=I1.hok.fresh (A0f _);refine⟨.ref s1.heap.objs.size,upd H1 s1.heap.objs.size (.tup xs),I1.laid (t':=s1.toks) (fun b u e=>Heap.get?_push_of_some _ e) (A0f _) ?_,rfl,q _ hf⟩;exact⟨z,us,r,⟨_,Heap.get?_push_size _ rfl,rfl,_,rfl⟩⟩
theorem a8e (h:PA X es t):PE X (.List es pos) (tLst t):=by
 intro pins s σ H Q I hq;refine wpAny_List_spliced (thn (h pos pins s σ H _ I hq) fun us s1 ⟨xs,H1,I1,r,z,q⟩=>⟨by rw[<- r.length];exact z,?_⟩);have hf:H1 s1.heap.objs.size=none:=I1.hok.fresh (A0f _);refine⟨.ref s1.heap.objs.size,upd H1 s1.heap.objs.size (.lst xs),I1.laid (t':=s1.toks) (fun b u e=>Heap.get?_push_of_some _ e) (A0f _) ?_,rfl,q _ hf⟩;exact⟨z,us,0,r,Heap.get?_push_size _ rfl⟩
end
abbrev Sp:=List V->Hp->VK->XK->Prop
abbrev CXT:=List Env->Hp->Shared->XK->Value->Shared->Prop
structure Env0 (P:Program)(w:World)(K:A0a)(mg:Str->Option Value)(base:Heap)(A:Around)(outer:List Env)(s:Shared)(H:Hp):Prop where
 frames:A.frames=some outer
 mod:Mod K mg base
 bs:∀b o,base.get? b=some o->s.heap.get? b=some o/\H b=none
 bsz:base.objs.size<=s.heap.objs.size
 funs:s.heap.FunFrames base outer
 frf:∀b∈frs outer,H b=none
 hok:HOk P w H s.heap
 bare:AllBare s.gens
def CE (outer:List Env)(P:Program)(w:World)(H:Hp)(s:Shared)(Q:VK)(u:Value)(s':Shared):Prop:=
 ∃v H',s'.os=s.os/\AllBare s'.gens/\Un (frs outer) [] H H' s.heap s'.heap/\HOk P w H' s'.heap/\a4s v u/\Q v H'
def CR (CX:CXT)(outer:List Env)(P:Program)(w:World)(H:Hp)(s:Shared)(Q:VK)(E:XK)(r:Result)(s':Shared):Prop:=
 match r with
 | .ok (.ret u)=>CE outer P w H s Q u s'
 | .ok _=>False
 | .error e=>CX outer H s E e s'
structure a2k (P:Program)(w:World)(K:A0a)(mg:Str->Option Value)(base:Heap)(CX:CXT)(k:Nat)(f:Addr)(fd:FuncData)(ps:List Str)(sp:Sp):Prop where
 len:∀vs H Q E,sp vs H Q E->vs.length=ps.length
 run:∀(A:Around) (outer:List Env) (s:Shared) (H:Hp) (args:Args) (us:List Value) (vs:List V) (Q:VK) (E:XK),b4h k A->Env0 P w K mg base A outer s H->BindsTo s fd args (ps.zip us)->a5f vs us->sp vs H Q E->
  codeAny (model P w) A (.call (.ref f) args) (CR CX outer P w H s Q E) s
theorem a2k.mono {P:Program}{w:World}{K:A0a}{mg:Str->Option Value}{base:Heap}{CX:CXT}{j k:Nat}{f:Addr}{fd:FuncData}{ps:List Str}{sp:Sp}(F:a2k P w K mg base CX j f fd ps sp)(h:j<=k) :
  a2k P w K mg base CX k f fd ps sp:=⟨F.len,fun A outer s H args us vs Q E hr=>F.run A outer s H args us vs Q E (hr.mono h)⟩
theorem Env0.make {w:World}{mg:Str->Option Value}{base:Heap}{outer:List Env}{H:Hp}(e:Env0 P w K mg base A outer s H)(C:Addr)(us:List Value)(kw:List (Str×Value)) :
  Env0 P w K mg base (A.under (.builtin "type.__call__" ⟨.ref C::us,kw⟩)) outer s H:=⟨by first|exact e.frames|(simpa[B3k,Code.envs,B3m,pushEnvs] using e.frames),e.mod,e.bs,e.bsz,e.funs,e.frf,e.hok,e.bare⟩
section
variable {X:Cx}{pins:List (Addr×Obj)}{σ:St}{H:Hp}{s s':Shared}
theorem Inv.env0 (I:Inv X pins σ H s):Env0 X.prog X.w X.K X.mg X.base X.A X.stack s H:=
 ⟨I.ok.frames,I.ok.mod,I.bs,A0y I.ok.bsz I.sz,I.stack,I.stkFree,I.hok,I.bare⟩
theorem Inv.after {Q:VK}(I:Inv X pins σ H s)(h:CE X.stack X.prog X.w H s Q u s'):EP X pins σ Q u s':=by
 obtain⟨v,H',os,bare,un,hok,r,q⟩:=h;obtain⟨hh,g,d,t,os'⟩:=s';obtain rfl:os'=s.os:=os;exact⟨v,H',I.call (h':=hh) (g':=g) (d':=d) (t':=t) (ch:=[]) un hok bare (fun b z=>absurd z (by simp)),r,q⟩
end
def tCall (sp:Sp)(dvs:List V)(E:XK)(t:TA):TE:=fun σ H Q=>t σ H fun vs H1=>sp (vs++dvs) H1 Q E
def tMake (C:Addr)(sp:Sp)(dvs:List V)(E:XK)(t:TA):TE:=fun σ H Q=>t σ H fun vs H1=>∀x dx,H1 x=none->H1 dx=none->dx≠x->
 sp (.ref x::(vs++dvs)) (upd (upd H1 dx (.own x)) x (.ins C dx [])) (fun v H2=>v=.non/\Q (.ref x) H2) E
def b9e (K:A0a)(fd:FuncData)(ps:List Str)(ds:List Value):Prop:=
 ∀(s:Shared) (us:List Value),K.In s.heap->(us++ds).length=ps.length->BindsTo s fd ⟨us,[]⟩ (ps.zip (us++ds))
theorem b9e.all {fd:FuncData}(h:∀us:List Value,us.length=ps.length->bindArgs fd ⟨us,[]⟩=pure (ps.zip us)):b9e K fd ps []:=fun s us _ hl=>by
 rw[A3v] at hl ⊢;exact .of_eq (h us hl)
def b7k (CX:CXT)(X:Cx)(E:XK):Prop:=∀(pins:List (Addr×Obj)) (σ:St) (H:Hp) (s:Shared) (e:Value) (s':Shared),Inv X pins σ H s->CX X.stack H s E e s'->X.xe e s'
section
variable {X:Cx}{CX:CXT}{k:Nat}{f C:Addr}{fd:FuncData}{ps:List Str}{sp:Sp}{dvs:List V}{ds:List Value}{E:XK}{x m:Str}{p pos apos:Pos}{e o:Expr}{es:List Expr}{ta:TE}{t:TA}
theorem run_fn {σ:St}{H:Hp}{Q:VK}{vs:List V}(F:a2k X.prog X.w X.K X.mg X.base CX k f fd ps sp)(hr:b4h k X.A)(hb:b9e X.K fd ps ds)(hd:a5f dvs ds)(hx:b7k CX X E)
  (I:Inv X pins σ H s) (r:a5f vs us) (h:sp (vs++dvs) H Q E):wpAny (model X.prog X.w) X.A (call (.ref f) us) (EP X pins σ Q) X.xe s:=by
 have r2:a5f (vs++dvs) (us++ds):=r.append hd;have hl:(us++ds).length=ps.length:=by rw[<- r2.length];exact F.len _ _ _ _ h
 refine B1w (A6q (F.run X.A X.stack s H ⟨us,[]⟩ (us++ds) (vs++dvs) Q E hr I.env0 (hb s us I.kIn hl) r2 h) fun r s' hq=>?_)
 cases r with
 | error e=>exact hx pins σ H s e s' I hq
 | ok fl=>
  cases fl with
  | ret u=>exact I.after hq
  | next=>exact A1u hq
  | brk=>exact A1u hq
  | cont=>exact A1u hq
theorem pe_call (F:a2k X.prog X.w X.K X.mg X.base CX k f fd ps sp)(hr:b4h k X.A)(hg:Gl X x)(hm:X.mg x=some (.ref f))(hk:A1s X.K (.ref f)=true)(hb:b9e X.K fd ps ds)(hd:a5f dvs ds)(hx:b7k CX X E)
  (ha:PA X (e::es) t) (hdb:(x==("__debug__":Str))=false:=by decide) (he:starEach (e::es) X.env=(false,eval e X.env)::starEach es X.env:=by rfl) (hpl:(backTo pos (starEach es X.env)).any (·.1)=false:=by rfl) :
  PE X (.Call (.Name x p) (e::es) [] pos) (tCall sp dvs E t):=by
 intro pins s σ H Q I h;refine A4j (c7q I hg hm ?_ hdb);refine A5k (h₀:=X.base) I.ok.mod.kin hk (thn (ha pos pins s σ H _ I h) fun us s1 ⟨vs,H1,I1,r,q⟩=>⟨I1.kIn,?_⟩) he hpl;exact run_fn F hr hb hd hx I1 r q
structure Mk (K:A0a)(C f:Addr):Prop where
 makes:B1j K C=true
 init:A2h K (.ref C) "__init__" = some (some (.ref f))
 fn:A0r K (.ref f)=true
 kp:A1s K (.ref C)=true
theorem run_make {σ:St}{H:Hp}{Q:VK}{vs:List V}(M:Mk X.K C f)(F:a2k X.prog X.w X.K X.mg X.base CX k f fd ps sp)(hr:b4h (k+1) X.A)(hb:b9e X.K fd ps ds)(hd:a5f dvs ds)
  (hx:b7k CX X E) (I:Inv X pins σ H s) (r:a5f vs us)
  (h:∀x dx,H x=none->H dx=none->dx≠x->sp (.ref x::(vs++dvs)) (upd (upd H dx (.own x)) x (.ins C dx [])) (fun v H2=>v=.non/\Q (.ref x) H2) E) :
  wpAny (model X.prog X.w) X.A (call (.ref C) us) (EP X pins σ Q) X.xe s:=by
 have hq:=h (s.heap.objs.size+1) s.heap.objs.size (I.hok.fresh (B2j _)) (I.hok.fresh (A0f _)) (A1j (A3t _));have I2:=Inv.made (C:=C) I;have r2:a5f (V.ref (s.heap.objs.size+1)::(vs++dvs)) (A1w (s.heap.objs.size+1)::(us++ds)):=.cons rfl (r.append hd)
 have hl:(A1w (s.heap.objs.size+1)::us++ds).length=ps.length:=by
  have e:=r2.length;rw[F.len _ _ _ _ hq] at e;exact e.symm
 refine B1w (make_map (f:=f) I.kIn M.makes M.init (beq_iff_eq.mp M.fn) (A6q (F.run _ X.stack _ _ ⟨A1w (s.heap.objs.size+1)::us,[]⟩ (A1w (s.heap.objs.size+1)::(us++ds)) _ _ E (hr.make C us [])
  (I2.env0.make C us []) (hb _ (A1w (s.heap.objs.size+1)::us) I2.kIn hl) r2 hq) fun r s' hq'=>?_))
 cases r with
 | error e=>exact hx pins σ _ _ e s' I2 hq'
 | ok fl=>
  cases fl with
  | ret u=>
   obtain⟨v,H',I3,rv,ev,q3⟩:=I2.after hq';subst ev;exact⟨rv,⟨V.ref (s.heap.objs.size+1),H',I3,rfl,q3⟩⟩
  | next=>exact A1u hq'
  | brk=>exact A1u hq'
  | cont=>exact A1u hq'
theorem pe_make (M:Mk X.K C f)(F:a2k X.prog X.w X.K X.mg X.base CX k f fd ps sp)(hr:b4h (k+1) X.A)(hg:Gl X x)(hm:X.mg x=some (.ref C))(hb:b9e X.K fd ps ds)(hd:a5f dvs ds)(hx:b7k CX X E)
  (ha:PA X (e::es) t) (hdb:(x==("__debug__":Str))=false:=by decide) (he:starEach (e::es) X.env=(false,eval e X.env)::starEach es X.env:=by rfl) (hpl:(backTo pos (starEach es X.env)).any (·.1)=false:=by rfl) :
  PE X (.Call (.Name x p) (e::es) [] pos) (tMake C sp dvs E t):=by
 intro pins s σ H Q I h;refine A4j (c7q I hg hm ?_ hdb);refine A5k (h₀:=X.base) I.ok.mod.kin M.kp (thn (ha pos pins s σ H _ I h) fun us s1 ⟨vs,H1,I1,r,q⟩=>⟨I1.kIn,?_⟩) he hpl;exact run_make M F hr hb hd hx I1 r q
end
section
variable {X:Cx}{CX:CXT}{k:Nat}{f C:Addr}{fd:FuncData}{ps ks:List Str}{sp:Sp}{E:XK}{x m:Str}{p pos apos kpos:Pos}{e o:Expr}{es:List Expr}{kws:List Keyword}{te ta:TE}{t tk:TA}{nm:Option Str}
variable {g:List Value->List Value->List Value}{gV:List V->List V->List V}
end
structure a0r (N P:List Str)(sc:Scope):Prop where
 kind:sc.kind=.function
 co:sc.isCoroutine=false
 gen:sc.isGenerator=false
 nd:N.Nodup
 pre:N.take P.length=P
 par:∀x∈P,sc.names.lookup x=some .local\/sc.names.lookup x=some .cell
 nofree:∀y∈sc.names,y.2≠.free
theorem bindL_out {kindOf:Str->Option NameKind}{x:Str}:∀{binds:List (Str×Value)} {m:Str->Option Value},(∀v,(x,v)∉binds)->bindL kindOf binds m x=m x
 | [],_,_=>rfl
 | (n,v)::r,m,h=>by
  unfold bindL;rw[bindL_out fun w hw=>h w (A0d _ hw)]
  split
  ·have:x≠n:=by rintro rfl;exact h v A0k
   simp[this]
  ·rfl
theorem bindC_out {kindOf:Str->Option NameKind}{x:Str}:∀{binds:List (Str×Value)} {m:Str->Option Value},(∀v,(x,v)∉binds)->bindC kindOf binds m x=m x
 | [],_,_=>rfl
 | (n,v)::r,m,h=>by
  unfold bindC;rw[bindC_out fun w hw=>h w (A0d _ hw)]
  split
  ·rfl
  ·have:x≠n:=by rintro rfl;exact h v A0k
   simp[this]
theorem bindL_get {kindOf:Str->Option NameKind}{x:Str}{v:Value}:∀{P:List Str} {vs:List Value} {i:Nat} {m:Str->Option Value},P.Nodup->P[i]? = some x->vs[i]? = some v->kindOf x=some .local->
  bindL kindOf (P.zip vs) m x=some v
 | [],_,_,_,_,h,_,_=>by simp at h
 | _::_,[],_,_,_,_,h,_=>by simp at h
 | p::P,w::vs,0,m,nd,h1,h2,hk=>by
  simp at h1 h2;subst h1;subst h2;show bindL kindOf ((p,w)::P.zip vs) m p=_;unfold bindL;rw[bindL_out fun v hv=>(List.nodup_cons.mp nd).1 (A6w hv).1,if_pos hk];simp
 | p::P,w::vs,i+1,m,nd,h1,h2,hk=>by
  show bindL kindOf ((p,w)::P.zip vs) m x=_;unfold bindL;exact bindL_get (i:=i) (List.nodup_cons.mp nd).2 (by simpa using h1) (by simpa using h2) hk
theorem bindC_get {kindOf:Str->Option NameKind}{x:Str}{v:Value}:∀{P:List Str} {vs:List Value} {i:Nat} {m:Str->Option Value},P.Nodup->P[i]? = some x->vs[i]? = some v->kindOf x≠some .local->
  bindC kindOf (P.zip vs) m x=some v
 | [],_,_,_,_,h,_,_=>by simp at h
 | _::_,[],_,_,_,_,h,_=>by simp at h
 | p::P,w::vs,0,m,nd,h1,h2,hk=>by
  simp at h1 h2;subst h1;subst h2;show bindC kindOf ((p,w)::P.zip vs) m p=_;unfold bindC;rw[bindC_out fun v hv=>(List.nodup_cons.mp nd).1 (A6w hv).1,if_neg hk];simp
 | p::P,w::vs,i+1,m,nd,h1,h2,hk=>by
  show bindC kindOf ((p,w)::P.zip vs) m x=_;unfold bindC;exact bindC_get (i:=i) (List.nodup_cons.mp nd).2 (by simpa using h1) (by simpa using h2) hk
def start (N:List Str)(vs:List V):St:=vs.map some++A4b (N.length-vs.length) none
def cxOf (CX:CXT)(P:Program)(w:World)(K:A0a)(mg:Str->Option Value)(base:Heap)(N:List Str)(qual:Str)(scope:Scope)(f:Addr)(cd:Value)(A:Around)(outer:List Env)(s:Shared)(H:Hp)(E:XK):Cx where
 prog:=P
 w:=w
 K:=K
 mg:=mg
 base:=base
 A:=A.deeper (envOfC qual scope s.heap.objs.size f cd)
 N:=N
 s₀:=s
 H₀:=H
 env:=envOfC qual scope s.heap.objs.size f cd
 outer:=outer
 stack:=envOfC qual scope s.heap.objs.size f cd::outer
 ex:=[]
 calm:=true
 fn:=fun _=>true
 pn:=[]
 xe:=fun e s'=>wpAny (model P w) (A.deeper (envOfC qual scope s.heap.objs.size f cd)) (leaving (envOfC qual scope s.heap.objs.size f cd) e) (fun _ s''=>CX outer H s E e s'') (fun e' s''=>CX outer H s E e' s'') s'
theorem cell_has {sc:Scope}{n:Nat}(h:sc.names.lookup x=some .cell):∃c,(cellsFrom n sc.names []).lookup x=some c:=by
 have q:=A7f sc.names n [] (.inl h);exact Option.isSome_iff_exists.mp q
theorem inv_start {CX:CXT}{w:World}{mg:Str->Option Value}{base:Heap}{cd:Value}{outer:List Env}{s1:Shared}{H:Hp}{E:XK}{vs:List V}
  (S:a0r N ps scope) (hd:A.handled=none) (e0:Env0 P w K mg base A outer s H) (hl:vs.length=ps.length) (r:a5f vs us)
  (x:InCallC s s.heap.objs.size (bindL (envOfC qual scope s.heap.objs.size f cd).kindOf (ps.zip us) fun _=>none) (cellsFrom (s.heap.objs.size+1) scope.names []) (bindC (envOfC qual scope s.heap.objs.size f cd).kindOf (ps.zip us) fun _=>none) s1) :
  Inv (cxOf CX P w K mg base N qual scope f cd A outer s H E) [] (start N vs) H s1:=by
 have hpl:ps.length<=N.length:=by have:=congrArg List.length S.pre;rw[A0u] at this;omega
 obtain⟨h1,tk,rfl,hk⟩:=x.done;have noA:∀b:Addr,b∉(cxOf CX P w K mg base N qual scope f cd A outer s H E).ex:=fun b z=>absurd (show b∈([]:List Addr) from z) (by simp)
 refine⟨⟨e0.mod,S.kind,rfl,rfl,A0f _,fun y z c h1 h2=>?_,fun y hy=>?_,fun y c _ h=>?_,fun _=>hd,B1y e0.frames,.inr ⟨rfl,rfl⟩,fun b z=>absurd z (noA b),e0.bs,e0.bsz,fun b _ _=>noA b,fun b z=>absurd z (noA b),e0.funs,e0.frf⟩,
  rfl,e0.bare,Un.kept hk,⟨_,x.toInCall.ns,fun i y v h1 h2 h3=>?_⟩,fun y c h=>⟨_,x.cell y c h⟩,e0.hok.fresh (A0f _),fun y c h=>?_,fun p hp=>absurd (show p∈([]:List (Addr×Obj)) from hp) (by simp),e0.hok.kept hk,?_⟩
 ·exact name_of_addr x.apart (A0x h1) (A0x h2)
 ·have hy:scope.names.lookup y=some .cell\/scope.names.lookup y=some .free:=hy
  rcases hy with hy|hy
  ·exact cell_has hy
  ·exact absurd rfl (S.nofree _ (A0x hy))
 ·exact A4h (x.above y c (A0x h))
 ·have hi:i<vs.length:=by
   unfold start at h2
   by_cases hi:i<vs.length
   ·exact hi
   ·rw[List.getElem?_append_right (by simpa using hi)] at h2;rw[List.getElem?_replicate] at h2
    split at h2<;>cases h2
  have ha:vs[i]? = some v:=by
   unfold start at h2;rw[List.getElem?_append_left (by simpa using hi),List.getElem?_map] at h2
   cases e:vs[i]? with
   | none=>rw[e] at h2;cases h2
   | some a=>rw[e] at h2;cases h2;rfl
  obtain⟨u,hu,rv⟩:=r.get ha
  have hp:ps[i]? = some y:=by
   rw[<- S.pre,List.getElem?_take_of_lt (by omega)];exact h1
  have ndP:ps.Nodup:=by rw[<- S.pre];exact S.nd.sublist (B0e _ _)
  refine⟨u,rv,?_⟩
  rcases S.par y (List.mem_of_getElem? hp) with k|k
  ·exact .inl ⟨k,bindL_get ndP hp hu k⟩
  ·obtain⟨c,e⟩:=cell_has (n:=s.heap.objs.size+1) k;refine .inr ⟨.inl k,c,e,?_⟩;have q:=x.cell y c e;rw[bindC_get ndP hp hu (by show scope.names.lookup y≠_;rw[k];decide)] at q;exact q
 ·exact e0.hok.fresh (A4h (x.above y c (A0x h)))
 ·unfold start;show _=N.length;rw[A0s,A0c,B1k];omega
theorem fn_of {CX:CXT}{P:Program}{w:World}{mg:Str->Option Value}{base:Heap}{name:Str}{params:Arguments}{dV kV doc pm cdv ct oc:Value}{an od:Option Addr}
  {osl:Array (Option Value)} {N ps:List Str} {sp:Sp} (lk:K.lookup f=some ⟨oc,od,.func (A1x name qual params body scope dV kV doc pm an cdv ct),osl⟩) (hcd:A2t K cdv qual=true) (S:a0r N ps scope)
  (len:∀vs H Q E,sp vs H Q E->vs.length=ps.length)
  (hbody:∀(A:Around) (outer:List Env) (s:Shared) (H:Hp) (vs:List V) (Q:VK) (E:XK),b4h k (A.deeper (envOfC qual scope s.heap.objs.size f cdv))->sp vs H Q E->
   ∃t,PSs (cxOf CX P w K mg base N qual scope f cdv A outer s H E) body t/\t { nx:=fun _ H'=>Q .non H',rt:=Q } (start N vs) H) :
  a2k P w K mg base CX (k+1) f (A1x name qual params body scope dV kV doc pm an cdv ct) ps sp:=by
 refine⟨len,fun A outer s H args us vs Q E hr e0 hb r hsp=>?_⟩;have hl:=len _ _ _ _ hsp;have KX:K.In s.heap:=e0.mod.kin.keeps fun b o e=>(e0.bs b o e).1;have lim:s.heap.NoLimit:=e0.mod.nolimit.keeps fun b o e=>(e0.bs b o e).1
 have hkind:∀y∈ps.zip us,scope.names.lookup y.1=some .local\/(scope.names.lookup y.1=some .cell/\((cellsFrom (s.heap.objs.size+1) scope.names []).lookup y.1).isSome=true):=fun⟨n,v⟩ hy=>by
  rcases S.par n (A6w hy).1 with q|q
  ·exact .inl q
  ·exact .inr ⟨q,A7f _ _ _ (.inl q)⟩
 refine codeAny_call_function hr.depth (KX _ _ lk) rfl S.co S.gen rfl (B2t KX hcd) (hb _ _ _ _ ?_);refine A9b S.kind hkind fun env he s1 x=>?_;subst he;refine⟨lim.keeps x.toInCall.keep,codeAny_func ?_⟩;obtain⟨t,ht,hq⟩:=hbody A outer s H vs Q E (hr.deeper _) hsp;have I:Inv (cxOf CX P w K mg base N qual scope f cdv A outer s H E) [] (start N vs) H s1:=inv_start S hr.hd e0 hl r x;refine A2m (ht [] s1 (start N vs) H _ I hq) (fun fl s' hs=>?_) fun e s' hs=>hs
 have fin:∀{σ':St} {H':Hp} {v:V} {u:Value},Inv (cxOf CX P w K mg base N qual scope f cdv A outer s H E) [] σ' H' s'->a4s v u->Q v H'->CE outer P w H s Q u s':=
  fun {σ' H' v u} J rv q=>⟨v,H',J.os,J.bare,J.base,J.hok,rv,q⟩
 cases fl with
 | ret u=>
  obtain⟨v,σ',H',J,rv,q⟩:=hs;exact fin J rv q
 | next=>
  obtain⟨σ',H',J,q⟩:=hs;exact fin (v:=V.non) (u:=B3d) J rfl q
 | brk=>
  obtain⟨_,_,_,q⟩:=hs;exact A1u q
 | cont=>
  obtain⟨_,_,_,q⟩:=hs;exact A1u q
section
variable {X:Cx}{x:Str}{p pos:Pos}{e:Expr}{es:List Expr}{t:TA}{id T:String}{r:List V->Hp->VK->Prop}
def tCB (r:List V->Hp->VK->Prop)(t:TA):TE:=fun σ H Q=>t σ H fun vs H1=>r vs H1 Q
theorem a3e (hc:b3k X (.builtin id) r)(hg:Gl X x)(hm:X.mg x=none)(hv:bootBuiltins x=some (.builtin id))(ha:PA X (e::es) t)(hn:x ≠ "__name__":=by decide)(hdb:(x==("__debug__":Str))=false:=by decide)
  (he:starEach (e::es) X.env=(false,eval e X.env)::starEach es X.env:=by rfl) (hpl:(backTo pos (starEach es X.env)).any (·.1)=false:=by rfl):PE X (.Call (.Name x p) (e::es) [] pos) (tCB r t):=by
 intro pins s σ H Q I h;refine A4j (ld_blt I hg hm hv ?_ hn hdb);exact PyProof.Rows.callWith_builtin1 (thn (ha pos pins s σ H _ I h) fun us s1 ⟨vs,H1,I1,r1,q1⟩=>hc pins s1 σ H1 vs us Q I1 r1 q1) he hpl
theorem b5u (hc:b3k X (.type T) r)(hg:Gl X x)(hm:X.mg x=none)(hv:bootBuiltins x=some (.type T))(ha:PA X (e::es) t)(hn:x ≠ "__name__":=by decide)(hdb:(x==("__debug__":Str))=false:=by decide)
  (he:starEach (e::es) X.env=(false,eval e X.env)::starEach es X.env:=by rfl) (hpl:(backTo pos (starEach es X.env)).any (·.1)=false:=by rfl):PE X (.Call (.Name x p) (e::es) [] pos) (tCB r t):=by
 intro pins s σ H Q I h;refine A4j (ld_blt I hg hm hv ?_ hn hdb);exact A8k (thn (ha pos pins s σ H _ I h) fun us s1 ⟨vs,H1,I1,r1,q1⟩=>hc pins s1 σ H1 vs us Q I1 r1 q1) he hpl
end
end L2
namespace HT
open PySem PyProof.Rows
variable {sl:Addr}{hi lo:Option Int}{vl vu:Value}
section
open PySem.SeqAt
open PySem.AutoSeq1 (wpAny_loadPart')
open PySem.MeetsSeq PySem.MeetsSeq2 PySem.MeetsSeq3
end
section
variable {prog:Program}{w:World}{A:Around}{E:Value->Shared->Prop}{s:Shared}
def sIx (n d:Nat):Option Int->Nat
 | none=>d
 | some v=>if v<0 then (v+(n:Int)).toNat else min v.toNat n
theorem sIx_none (n d:Nat):sIx n d none=d:=rfl
theorem sIx_nat (n d k:Nat):sIx n d (some (k:Int))=min k n:=by
 show (if (k:Int)<0 then ((k:Int)+(n:Int)).toNat else min (k:Int).toNat n)=min k n;rw[if_neg (by omega),A3p]
theorem sIx_le (n d:Nat)(hd:d<=n)(o:Option Int):sIx n d o<=n:=by
 cases o with
 | none=>exact hd
 | some v=>
  show (if v<0 then (v+(n:Int)).toNat else min v.toNat n)<=n
  by_cases hv:v<0
  ·rw[if_pos hv];omega
  ·rw[if_neg hv];exact Nat.min_le_right _ _
theorem clip_eq (v:Int)(n d:Nat):(if v<0 then max (v+(n:Int)) 0 else min v (n:Int))=((sIx n d (some v):Nat):Int):=by
 show (if v<0 then max (v+(n:Int)) 0 else min v (n:Int))=(((if v<0 then (v+(n:Int)).toNat else min v.toNat n):Nat):Int)
 by_cases hv:v<0
 ·simp only[if_pos hv];omega
 ·simp only[if_neg hv];omega
theorem adjust_gen (lo hi:Option Int)(n:Nat):A6d lo hi 1 (n:Int)=(((sIx n 0 lo:Nat):Int),((sIx n n hi:Nat):Int)):=by
 have h1:¬((1:Int)<0):=by omega
 unfold A6d;simp only[h1,if_false];refine A5t ?_ ?_
 ·cases lo with
  | none=>rfl
  | some v=>exact clip_eq v n 0
 ·cases hi with
  | none=>rfl
  | some v=>exact clip_eq v n n
theorem places_gen (i j:Nat):A4p (i:Int) (j:Int) 1=j-i:=by
 unfold A4p;have h1:(1:Int)>0:=by omega
 simp only[h1,if_true,Int.ediv_one]
 split<;>omega
theorem d2v {v:Value}{o:Option Int}{Q:Option Int->Shared->Prop}(p:IsPart v o)(h:Q o s):wpAny (model prog w) A (Builtin.Slice.slicePartIndex v) Q E s:=by
 cases p with
 | none=>exact slicePart_none h
 | int i t=>exact slicePart_int h
theorem c4v {n:Nat}{Q:Int×Int×Nat->Shared->Prop}(hs:s.heap.IsSliceOf sl vl vu .none)(pl:IsPart vl lo)(pu:IsPart vu hi)
  (h:Q (((sIx n 0 lo:Nat):Int),1,sIx n n hi-sIx n 0 lo) s):wpAny (model prog w) A (A9c (.ref sl) (pure (n:Int))) Q E s:=by
 obtain⟨os,hos,hcs,hds⟩:=id hs;unfold A9c Builtin.Slice.sliceFields;refine A0b (A0b (A8p hos hds (x:=vl) rfl (A0b (A8p hos hds (x:=vu) rfl (A0b (A8p hos hds (x:=.none) rfl (A0h ?_)))))));refine A0b (slicePart_none ?_);show wpAny _ _ (if ((1:Int)==0)=true then _ else _) _ _ s;rw[if_neg (by decide)];refine A0b (d2v pl (A0b (d2v pu (A0b (A0h ?_)))));show wpAny _ _ (match A6d lo hi 1 (n:Int) with|(lo,hi)=>pure (lo,(1:Int),A4p lo hi 1)) _ _ s;rw[adjust_gen lo hi n];show wpAny _ _ (pure (((sIx n 0 lo:Nat):Int),(1:Int),A4p ((sIx n 0 lo:Nat):Int) ((sIx n n hi:Nat):Int) 1)) _ _ s;rw[places_gen];exact A0h h
theorem pick_gen (xs:Array Value)(i k:Nat):((A5d k).filterMap fun (m:Nat)=>xs[((i:Int)+(m:Int)*1).toNat]?).toArray=((xs.toList.drop i).take k).toArray:=by
 have e:(fun (m:Nat)=>xs[((i:Int)+(m:Int)*1).toNat]?)=fun m=>xs[i+m]?:=by
  funext m
  have:((i:Int)+(m:Int)*1).toNat=i+m:=by omega
  rw[this]
 rw[e];have:=pick_run xs i k;rw[List.filterMap_map] at this;have e2:((fun x=>xs[x]?)∘fun x=>i+x)=fun m=>xs[i+m]?:=rfl;rw[e2] at this;rw[this]
theorem getItem_tuple_cut {t:Addr}{items:Array Value}{Q:Value->Shared->Prop}(ht:IsTup s.heap t items)(hs:s.heap.IsSliceOf sl vl vu .none)(pl:IsPart vl lo)(pu:IsPart vu hi)
  (hw:¬(sIx items.size 0 lo=0/\sIx items.size items.size hi=items.size))
  (h:Q (.ref s.heap.objs.size) { s with heap:=s.heap.push { cls:=.type "tuple",data:=.seq ((items.toList.drop (sIx items.size 0 lo)).take (sIx items.size items.size hi-sIx items.size 0 lo)).toArray } })
  (hsz:items.size<=sizeLine):wpAny (model prog w) A (getItem (.ref t) (.ref sl)) Q E s:=by
 have htake:sizeOk (.seq ((items.toList.drop (sIx items.size 0 lo)).take (sIx items.size items.size hi-sIx items.size 0 lo)).toArray):=by
  show ((items.toList.drop (sIx items.size 0 lo)).take (sIx items.size items.size hi-sIx items.size 0 lo)).toArray.size<=sizeLine;rw[A1f,A0u,B0z,A2g];omega
 have hj:sIx items.size items.size hi<=items.size:=sIx_le _ _ (A0f _) hi;obtain⟨os,hos,hcs,hds⟩:=id hs;have hTs:s.TypeIs (.ref sl) "slice":=⟨os,hos,hcs⟩;unfold getItem
 try with_reducible refine A5b ?_
 first|refine A0b (A0h ?_)|skip
 refine A0b (A7j ht.typeIs (by decide) ?_)
 refine A0b (wpAny_callSpecial?_slot (name:=A9h "__getitem__") ht.typeIs A7k
  (A4g A7k ht.typeIs entry_tuple_getitem ?_ (args_tuple_getitem _ _)))
 show wpAny _ _ (Builtin.Tuple.tupleItemsOf (.ref t) >>= _) _ _ s;refine A0b (tupleItemsOf_ ht ?_);refine A0b (wpAny_typeOf hTs ?_);rw[if_pos (by decide)];refine A0b (c4v hs pl pu ?_)
 have hno:¬((((sIx items.size 0 lo:Nat):Int)==0&&(1:Int)==1&&(sIx items.size items.size hi-sIx items.size 0 lo)==items.size)=true):=by
  intro q;rw[A3y,A3y] at q;have q1:((sIx items.size 0 lo:Nat):Int)=0:=eq_of_beq q.1.1;have q2:sIx items.size items.size hi-sIx items.size 0 lo=items.size:=eq_of_beq q.2;exact hw ⟨by omega,by omega⟩
 show wpAny _ _ (if (((sIx items.size 0 lo:Nat):Int)==0&&(1:Int)==1&&(sIx items.size items.size hi-sIx items.size 0 lo)==items.size)=true then _ else _) _ _ s;rw[if_neg hno,pick_gen]
 first
  | exact A0b (m:=A4u _) (A4s (A0h ⟨_,rfl,A0h h⟩) htake)
  | exact A0b (m:=A4u _) (A4s (A0b (A0h (A0h ⟨_,rfl,A0h h⟩))) htake)
  | exact A0b (A0b (m:=A4u _) (A4s (A0h (A0h ⟨_,rfl,A0h h⟩)) htake))
  | exact A0b (A0b (m:=A4u _) (A4s (A0h ⟨_,rfl,A0h h⟩) htake))
end
end HT
namespace L2
open PySem PySem.Spec PyProof.Rows
variable {i:Int}{its us:List Value}{a c j t':Nat}{x:V}
abbrev TO:=St->Hp->(Option Int->Hp->Prop)->Prop
def PO (X:Cx)(e:Option Expr)(t:TO):Prop:=
 ∀(pins:List (Addr×Obj)) (s:Shared) (σ:St) (H:Hp) (Q:Option Int->Hp->Prop),Inv X pins σ H s->t σ H Q->
  wpAny (model X.prog X.w) X.A (evalPart e X.env) (fun u s'=>∃o H',Inv X pins σ H' s'/\IsPart u o/\Q o H') X.xe s
def tNoPart:TO:=fun _ H Q=>Q none H
def tPart (t:TE):TO:=fun σ H Q=>t σ H fun x H1=>∃i,x=.int i/\Q (some i) H1
section
variable {X:Cx}{e:Expr}{te:TE}{lo hi:Option Expr}{tl th:TO}{pos p2:Pos}
theorem c8c:PO X none tNoPart:=by
 intro pins s σ H Q I h;rw[evalPart_none];exact A0h ⟨none,H,I,.none,h⟩
theorem c6w (h:PE X e te):PO X (some e) (tPart te):=by
 intro pins s σ H Q I hw;rw[evalPart_some];refine thn (h pins s σ H _ I hw) fun u s1 hq9=>?_;obtain⟨x,H1,I1,r1,q1⟩:=hq9;obtain⟨i,rfl,q⟩:=q1;obtain⟨t,rfl⟩:=r1;exact⟨some i,H1,I1,.int i t,q⟩
def SlR (X:Cx)(r:V->Option Int->Option Int->Hp->VK->Prop):Prop:=
 ∀(pins:List (Addr×Obj)) (s:Shared) (σ:St) (H:Hp) (x:V) (v vl vu:Value) (lo hi:Option Int) (sl:Addr) (Q:VK),Inv X pins σ H s->a4s x v->s.heap.IsSliceOf sl vl vu .none->IsPart vl lo->IsPart vu hi->r x lo hi H Q->
  ∃T id,typeLookup (.type T) "__getitem__" = pure (some (.builtin id))/\s.TypeIs v T/\wpAny (model X.prog X.w) X.A (getItem v (.ref sl)) (EP X pins σ Q) X.xe s
def tSl (r:V->Option Int->Option Int->Hp->VK->Prop)(te:TE)(tl th:TO):TE:=fun σ H Q=>te σ H fun x H1=>tl σ H1 fun l H2=>th σ H2 fun u H3=>r x l u H3 Q
theorem c6e {r:V->Option Int->Option Int->Hp->VK->Prop}(hr:SlR X r)(he:PE X e te)(hl:PO X lo tl)(hu:PO X hi th):PE X (.Subscript e (.Slice lo hi none p2) pos) (tSl r te tl th):=by
 intro pins s σ H Q I h;refine Subscript_ (thn (he pins s σ H _ I h) fun v s1 hq9=>?_);obtain⟨x,H1,I1,r1,q1⟩:=hq9;refine wpAny_Slice (thn (hl pins s1 σ H1 _ I1 q1) fun vl s2 ⟨l,H2,I2,pl,q2⟩=>thn (hu pins s2 σ H2 _ I2 q2) fun vu s3 hq9=>?_);obtain⟨u,H3,I3,pu,q3⟩:=hq9;rw[evalPart_none];refine A0h ?_;have I4:Inv X pins σ H3 { s3 with heap:=s3.heap.push { cls:=.type "slice",data:=.fields #[vl,vu,.none] } }:=I3.kept (t':=s3.toks) fun b ob q=>Heap.get?_push_of_some _ q;obtain⟨T,id,hT,ht,hg⟩:=hr pins { s3 with heap:=s3.heap.push { cls:=.type "slice",data:=.fields #[vl,vu,.none] } } σ H3 x v vl vu l u s3.heap.objs.size Q I4 r1 (B2u ..) pl pu q3;show wpAny (model X.prog X.w) X.A (subscriptTail e (.Slice lo hi none p2) v (.ref s3.heap.objs.size)) (EP X pins σ Q) X.xe { s3 with heap:=s3.heap.push { cls:=.type "slice",data:=.fields #[vl,vu,.none] } };exact tail_any (ops:=[.ref s3.heap.objs.size,v]) ht hT hg (by with_unfolding_all rfl)
def cutV (xs:List V)(lo hi:Option Int):List V:=(xs.drop (HT.sIx xs.length 0 lo)).take (HT.sIx xs.length xs.length hi-HT.sIx xs.length 0 lo)
theorem c6v (xs:List V)(lo hi:Option Int):(cutV xs lo hi).length<=xs.length:=by
 unfold cutV;rw[A0u,B0z];omega
def rSlT (K:A0a):V->Option Int->Option Int->Hp->VK->Prop:=fun x lo hi H Q=>∃a xs,x=.ref a/\SqT K H a xs/\
 ¬(HT.sIx xs.length 0 lo=0/\HT.sIx xs.length xs.length hi=xs.length)/\∀p,H p=none->Q (.ref p) (upd H p (.tup (cutV xs lo hi)))
theorem sl_tup:SlR X (rSlT X.K):=by
 intro pins s σ H x v vl vu lo hi sl Q I rx hs pl pu h;obtain⟨a,xs,rfl,hx,hw,q⟩:=h;cases rx;obtain⟨its,r,ht,hz⟩:=I.tuple hx;have hlen:its.toArray.size=xs.length:=by rw[A1f];exact r.length.symm
 refine⟨"tuple",_,PyProof.Rows.slot_tuple_getitem.lookup,ht.typeIs,?_⟩;refine HT.getItem_tuple_cut ht hs pl pu (by rw[hlen];exact hw) ?_ (by rw[hlen];exact hz);rw[hlen];refine⟨.ref s.heap.objs.size,_,I.laid (t':=s.toks) (o:=.tup (cutV xs lo hi)) (fun b ob q=>Heap.get?_push_of_some _ q) (A0f _) ?_,rfl,q _ (I.hok.fresh (A0f _))⟩;exact⟨A0y (c6v xs lo hi) hz,_,(r.drop (HT.sIx xs.length 0 lo)).take (HT.sIx xs.length xs.length hi-HT.sIx xs.length 0 lo),IsTup.new _ _⟩
end
def ixN (n:Nat)(i:Int):Option Nat:=if 0<=i then (if i<n then some i.toNat else none) else if -(n:Int)<=i then some (i+n).toNat else none
def atI {α:Type}(xs:List α)(i:Int):Option α:=(ixN xs.length i).bind fun j=>xs[j]?
theorem ixN_seq {n:Nat}(h:ixN n i=some j):seqIndex? i n=some j/\j<n/\-(n:Int)<=i/\i<n:=by
 unfold ixN at h
 by_cases h0:0<=i
 ·rw[if_pos h0] at h
  by_cases h1:i<n
  ·rw[if_pos h1] at h;have e:i.toNat=j:=A0j h;exact⟨by rw[seqIndex_of h0 h1,e],by omega,by omega,h1⟩
  ·rw[if_neg h1] at h;cases h
 ·rw[if_neg h0] at h
  by_cases h1:-(n:Int)<=i
  ·rw[if_pos h1] at h;have e:(i+n).toNat=j:=A0j h;exact⟨by rw[seqIndex_neg (by omega) h1,e],by omega,h1,by omega⟩
  ·rw[if_neg h1] at h;cases h
theorem atI_get {α:Type}{xs:List α}{v:α}(h:atI xs i=some v):∃j,seqIndex? i xs.length=some j/\xs[j]? = some v/\j<xs.length/\-(xs.length:Int)<=i/\i<xs.length:=by
 unfold atI at h
 cases e:ixN xs.length i with
 | none=>rw[e] at h;cases h
 | some j=>
  rw[e] at h;obtain⟨h1,h2,h3,h4⟩:=ixN_seq e;exact⟨j,h1,h,h2,h3,h4⟩
theorem c2m {α:Type}{xs:List α}{v:α}(h:xs[j]? = some v):atI xs (j:Int)=some v:=by
 have hj:j<xs.length:=(List.getElem?_eq_some_iff.mp h).1
 have e:ixN xs.length (j:Int)=some j:=by
  unfold ixN;rw[if_pos (by omega),if_pos (by omega)];simp
 unfold atI;rw[e];exact h
def PlainIx (b:Expr):Prop:=∀o i,subscripted b false o i=operate [o,i] (getItem o i)
def IxR (X:Cx)(r:R2):Prop:=
 ∀(value slice:Expr) (pins:List (Addr×Obj)) (s:Shared) (σ:St) (H:Hp) (x y:V) (v u:Value) (Q:VK),Inv X pins σ H s->a4s x v->a4s y u->r x y H Q->
  subscripted slice false v u=operate [v,u] (getItem v u)->wpAny (model X.prog X.w) X.A (subscriptTail value slice v u) (EP X pins σ Q) X.xe s
def MtR (X:Cx)(id:String)(r:V->List V->Hp->VK->Prop):Prop:=
 ∀(pins:List (Addr×Obj)) (s:Shared) (σ:St) (H:Hp) (x:V) (xs:List V) (v:Value) (us:List Value) (Q:VK),Inv X pins σ H s->a4s x v->a5f xs us->r x xs H Q->
  wpAny (model X.prog X.w) X.A (call (.builtin id) (v::us)) (EP X pins σ Q) X.xe s
section
variable {X:Cx}{a b:Expr}{ta tb:TE}{pos:Pos}
theorem pe_ix {r:R2}(hr:IxR X r)(ha:PE X a ta)(hb:PE X b tb)(hs:PlainIx b):PE X (.Subscript a b pos) (tOp r ta tb):=by
 intro pins s σ H Q I h;exact Subscript_ (binT ha hb I h fun v u s2 x y H2 I2 rx ry q=>hr a b pins s2 σ H2 x y v u Q I2 rx ry q (hs _ _))
def rIxL (K:A0a):R2:=fun x y H Q=>∃p xs i v,x=.ref p/\y=.int i/\SqL K H p xs/\atI xs i=some v/\Q v H
def rIxT (K:A0a):R2:=fun x y H Q=>∃p xs i v,x=.ref p/\y=.int i/\SqT K H p xs/\atI xs i=some v/\Q v H
theorem a7q:IxR X (rIxL X.K):=by
 intro value slice pins s σ H x y v u Q I rx ry h hs;obtain⟨p,xs,i,z,rfl,rfl,hq,he,q⟩:=h;cases rx;obtain⟨t,rfl⟩:=ry;obtain⟨its,r,pl,hz⟩:=I.list hq;obtain⟨j,h1,h2,h3,h4,h5⟩:=atI_get he;obtain⟨w,ew,rw'⟩:=r.get h2;have hl:=r.length;have hn:=line63;have fin:EP X pins σ Q w s:=⟨z,H,I,rw',q⟩
 by_cases h0:0<=i
 ·have hj:i.toNat=j:=by
   rw[seqIndex_of h0 h5] at h1;exact A0j h1
  exact item_listR pl.isList h0 (by omega) (by rw[hj];simpa using ew) fin hs
 ·have hj:(i+(its.toArray.size:Int)).toNat=j:=by
   rw[seqIndex_neg (by omega) h4] at h1;rw[A1f,<- hl];exact A0j h1
  exact subscriptTail_builtinR (x:=w) pl.isList.typeIs slot_list_getitem.lookup
   (wpAny_getItem_list_neg (Q:=fun r s'=>r=w/\EP X pins σ Q r s') pl.isList (by omega) (by rw[A1f]<;>omega) (by omega) (by rw[hj];simpa using ew) ⟨rfl,fin⟩) hs
theorem a0s:IxR X (rIxT X.K):=by
 intro value slice pins s σ H x y v u Q I rx ry h hs;obtain⟨p,xs,i,z,rfl,rfl,hq,he,q⟩:=h;cases rx;obtain⟨t,rfl⟩:=ry;obtain⟨its,r,pl,hz⟩:=I.tuple hq;obtain⟨j,h1,h2,h3,h4,h5⟩:=atI_get he;obtain⟨w,ew,rw'⟩:=r.get h2;have hl:=r.length;have hn:=line63;have fin:EP X pins σ Q w s:=⟨z,H,I,rw',q⟩
 exact subscriptTail_builtinR (x:=w) pl.typeIs slot_tuple_getitem.lookup
  (getItem_tuple (j:=j) (Q:=fun r s'=>r=w/\EP X pins σ Q r s') pl (by omega) (by omega) (by rw[A1f,<- hl];exact h1) (by simpa using ew) ⟨rfl,fin⟩) hs
theorem slice_bounds (lo hi:Option Int)(n:Nat):(sliceBounds lo hi none n).1=((HT.sIx n 0 lo:Nat):Int)/\(sliceBounds lo hi none n).2.1=((HT.sIx n n hi:Nat):Int)/\(sliceBounds lo hi none n).2.2=1:=by
 refine⟨?_,?_,rfl⟩
 ·cases lo with
  | none=>simp[sliceBounds,HT.sIx]
  | some i=>
   simp only[sliceBounds,HT.sIx,B1a,show (1:Int)>0 by decide,if_true]
   by_cases h:i<0
   ·simp only[h,if_true]<;>omega
   ·simp only[h,if_false]<;>omega
 ·cases hi with
  | none=>simp[sliceBounds,HT.sIx]
  | some i=>
   simp only[sliceBounds,HT.sIx,B1a,show (1:Int)>0 by decide,if_true]
   by_cases h:i<0
   ·simp only[h,if_true]<;>omega
   ·simp only[h,if_false]<;>omega
theorem d5h (its:List Value)(lo hi:Option Int):slicePick its.toArray lo hi none=((its.drop (HT.sIx its.length 0 lo)).take (HT.sIx its.length its.length hi-HT.sIx its.length 0 lo)).toArray:=by
 obtain⟨h1,h2,h3⟩:=slice_bounds lo hi its.toArray.size;unfold slicePick;rw[h1,h2,h3];simp only[sliceRange_one,pick_run,A1f]<;>rfl
def rSlL (K:A0a):V->Option Int->Option Int->Hp->VK->Prop:=fun x lo hi H Q=>∃a xs,x=.ref a/\SqL K H a xs/\∀p,H p=none->Q (.ref p) (upd H p (.lst (cutV xs lo hi)))
theorem sl_list:SlR X (rSlL X.K):=by
 intro pins s σ H x v vl vu lo hi sl Q I rx hs pl pu h;obtain⟨a,xs,rfl,hx,q⟩:=h;cases rx;obtain⟨its,r,ht,hz⟩:=I.list hx;have hlen:=r.length;refine⟨"list",_,slot_list_getitem.lookup,ht.isList.typeIs,?_⟩;refine wpAny_getItem_list_slice ht.isList hs pl pu .none (by simp) ?_ (by rw[A1f]<;>omega)
 rw[d5h,<- hlen];refine⟨.ref s.heap.objs.size,_,I.laid (t':=s.toks) (o:=.lst (cutV xs lo hi)) (fun b ob q=>Heap.get?_push_of_some _ q) (A0f _) ?_,rfl,q _ (I.hok.fresh (A0f _))⟩;exact⟨A0y (c6v xs lo hi) hz,_,0,(r.drop (HT.sIx xs.length 0 lo)).take (HT.sIx xs.length xs.length hi-HT.sIx xs.length 0 lo),Heap.get?_push_size _ rfl⟩
theorem call_len_seq:b3k X (.builtin "len") (fun xs H Q=>∃p ys,xs=[.ref p]/\(SqL X.K H p ys\/SqT X.K H p ys)/\Q (.int ys.length) H):=by
 intro pins s σ H xs us Q I r h;obtain⟨p,ys,rfl,hq,q⟩:=h;obtain⟨u,rfl,rx⟩:=vals1 r;cases rx;have hn:=line63
 rcases hq with hq|hq
 ·obtain⟨its,r',pl,hz⟩:=I.list hq;have hlen:=r'.length;exact Calls.call_len_list pl.isList (by simp only[A1f]<;>omega) ⟨.int ys.length,H,I.tok _,⟨s.toks+1,by rw[A1f,hlen]⟩,q⟩
 ·obtain⟨its,r',pl,hz⟩:=I.tuple hq;have hlen:=r'.length;exact len_tuple pl (by simp only[A1f]<;>omega) ⟨.int ys.length,H,I.tok _,⟨s.toks+1,by rw[A1f,hlen]⟩,q⟩
theorem call_len_str:b3k X (.builtin "len") (fun xs H Q=>∃z,xs=[.str z]/\z.length<=sizeLine/\Q (.int z.length) H):=by
 intro pins s σ H xs us Q I r h;obtain⟨z,rfl,hz,q⟩:=h;obtain⟨u,rfl,t,rfl⟩:=vals1 r;have hn:=line63;exact len_str (by omega) ⟨.int z.length,H,I.tok _,⟨_,rfl⟩,q⟩
theorem b3k.or {f:Value}{r r':List V->Hp->VK->Prop}(h:b3k X f r)(h':b3k X f r'):b3k X f (fun xs H Q=>r xs H Q\/r' xs H Q):=by
 intro pins s σ H xs us Q I rs q
 rcases q with q|q
 ·exact h pins s σ H xs us Q I rs q
 ·exact h' pins s σ H xs us Q I rs q
theorem call_list_of:b3k X (.type "list") (fun xs H Q=>∃p ys,xs=[.ref p]/\(SqL X.K H p ys\/SqT X.K H p ys)/\∀l,H l=none->Q (.ref l) (upd H l (.lst ys))):=by
 intro pins s σ H xs us Q I r h;obtain⟨p,ys,rfl,hq,q⟩:=h;obtain⟨u,rfl,rx⟩:=vals1 r;cases rx
 have fin:∀(its:List Value),a5f ys its->ys.length<=sizeLine->∀(h':Heap) (c':Nat),(∀b o',s.heap.get? b=some o'->h'.get? b=some o')->
   h'.get? s.heap.objs.size=some { cls:=.type "list",dict:=none,data:=.seq its.toArray c',slots:=#[] }->EP X pins σ Q (.ref s.heap.objs.size) { s with heap:=h' }:=fun its r' hz h' c' kp e=>
  ⟨.ref s.heap.objs.size,_,I.laid (t':=s.toks) kp (A0f _) (show a5g X.prog X.w _ h' _ (.lst ys) from ⟨hz,its,c',r',e⟩),rfl,q _ (I.hok.fresh (A0f _))⟩
 rcases hq with hq|hq
 ·obtain⟨its,r',pl,hz⟩:=I.list hq;have hlen:=r'.length;obtain⟨o,ho,hc,n,hd⟩:=pl.isList;exact call_list_seq p (.inl rfl) ho hc hd (fun h' c' kp e=>fin its r' hz h' c' kp e) (by simp only[A1f]<;>omega)
 ·obtain⟨its,r',pl,hz⟩:=I.tuple hq;have hlen:=r'.length;obtain⟨o,ho,hc,n,hd⟩:=pl;exact call_list_seq p (.inr rfl) ho hc hd (fun h' c' kp e=>fin its r' hz h' c' kp e) (by simp only[A1f]<;>omega)
def tyV (K:A0a)(T:String)(x:V)(H:Hp):Prop:=match x with
 | .str _=>T= "str"
 | .int _=>T= "int"
 | .ref p=>(T= "list"/\∃xs,SqL K H p xs)\/(T= "tuple"/\∃o,K.lookup p=some o/\o.cls=.type "tuple"/\o.dict=none)\/
   (T= "dict"/\((∃kvs,H p=some (.dK kvs))\/∃kvs,H p=some (.dT kvs)))\/(T= "set"/\∃S n,H p=some (.set S n))
 | _=>False
theorem tyV_is {pins:List (Addr×Obj)}{σ:St}{H:Hp}{s:Shared}{T:String}{v:Value}(I:Inv X pins σ H s)(r:a4s x v)(ty:tyV X.K T x H) :
  s.TypeIs v T/\∀a,v=.ref a->∃ob,s.heap.get? a=some ob/\ob.dict=none:=by
 cases x with
 | str z=>
  obtain⟨t,rfl⟩:=r;cases (show T= "str" from ty);exact⟨typeIs_str s z t,fun _ e=>nomatch e⟩
 | int i=>
  obtain⟨t,rfl⟩:=r;cases (show T= "int" from ty);exact⟨typeIs_int s i t,fun _ e=>nomatch e⟩
 | ref p=>
  cases r
  rcases ty with ⟨rfl,xs,hq⟩|⟨rfl,o,hk,hc,hd⟩|⟨rfl,hk⟩|⟨rfl,S,n,hk⟩
  ·obtain⟨its,_,pl,_⟩:=I.list hq;refine⟨pl.isList.typeIs,fun a e=>?_⟩;cases e;obtain⟨o,n,e,c,hd,_⟩:=pl;exact⟨o,e,hd⟩
  ·refine⟨⟨o,I.kIn p o hk,hc⟩,fun a e=>?_⟩;cases e;exact⟨o,I.kIn _ o hk,hd⟩
  ·have z:∃o,s.heap.get? p=some o/\o.ExactDict:=by
    rcases hk with ⟨kvs,hk⟩|⟨kvs,hk⟩
    ·obtain⟨_,_,_,_,o,_,_,e,ex,_⟩:=I.hok p _ hk;exact⟨o,e,ex⟩
    ·obtain⟨_,_,_,_,o,_,_,e,ex,_⟩:=I.hok p _ hk;exact⟨o,e,ex⟩
   obtain⟨o,e,ex⟩:=z;refine⟨⟨o,e,ex.1⟩,fun a e2=>?_⟩;cases e2;exact⟨o,e,ex.2.1⟩
  ·obtain⟨o,_,_,_,e,ex,_⟩:=I.hok p _ hk;refine⟨⟨o,e,ex.1⟩,fun a e2=>?_⟩;cases e2;exact⟨o,e,ex.2.1⟩
 | _=>exact A1u ty
def tBM0 (K:A0a)(T:String)(r:V->List V->Hp->VK->Prop)(to:TE):TE:=fun σ H Q=>to σ H fun x H1=>tyV K T x H1/\r x [] H1 Q
def tBM (K:A0a)(T:String)(r:V->List V->Hp->VK->Prop)(to:TE)(t:TA):TE:=fun σ H Q=>to σ H fun x H1=>tyV K T x H1/\t σ H1 fun xs H2=>r x xs H2 Q
variable {o e:Expr}{es:List Expr}{to:TE}{t:TA}{name:Str}{apos cpos:Pos}{T id:String}{r:V->List V->Hp->VK->Prop}
theorem pe_bm0 (pa:PlainAttrs T)(slot:Slot T name id)(hty:typeOf (.builtin id)=pure (.type "method_descriptor"))(hm:MtR X id r)(ho:PE X o to)
  (hbase:attributeBase o name X.env (eval o X.env)=eval o X.env:=by rfl) (hline:(apos.endLine==cpos.line)=true:=by rfl):PE X (.Call (.Attribute o name apos) [] [] cpos) (tBM0 X.K T r to):=by
 intro pins s σ H Q I h;refine wpAny_Call_method0_late hbase hline (thn (ho pins s σ H _ I h) fun v s1 hq9=>?_);obtain⟨x,H1,I1,r1,ty,q1⟩:=hq9;obtain⟨h1,h2⟩:=tyV_is I1 r1 ty;exact⟨T,id,pa,slot,hty,h1,h2,A5g rfl (B2k (hm pins s1 σ H1 x [] v [] Q I1 r1 .nil q1))⟩
theorem pe_bm (pa:PlainAttrs T)(slot:Slot T name id)(hty:typeOf (.builtin id)=pure (.type "method_descriptor"))(hm:MtR X id r)(ho:PE X o to)(ha:PA X (e::es) t)
  (hbase:attributeBase o name X.env (eval o X.env)=eval o X.env:=by rfl)
  (hfew:((backTo cpos (starEach (e::es) X.env)).all (fun x=>!x.1)&&(backToKw cpos (keywordEach [] X.env)).all (fun x=>x.1.isSome)
   && decide ((e::es).length+([]:List Keyword).length+(if ([]:List Keyword).isEmpty then 0 else 1)<30))=true:=by rfl)
  (hline:(apos.endLine==cpos.line)=true:=by rfl) (hs:starEach (e::es) X.env=(false,eval e X.env)::starEach es X.env:=by rfl) (hplain:(backTo cpos (starEach es X.env)).any (·.1)=false:=by rfl) :
  PE X (.Call (.Attribute o name apos) (e::es) [] cpos) (tBM X.K T r to t):=by
 intro pins s σ H Q I h;refine wpAny_Call_method_late hbase hfew hline rfl (thn (ho pins s σ H _ I h) fun v s1 hq9=>?_);obtain⟨x,H1,I1,r1,ty,q1⟩:=hq9;obtain⟨h1,h2⟩:=tyV_is I1 r1 ty;refine⟨T,id,pa,slot,hty,h1,h2,?_⟩;have hA:=ha cpos pins s1 σ H1 _ I1 q1;rw[hs] at hA ⊢;refine A5g (by show (false||(backTo cpos (starEach es X.env)).any (·.1))=false;rw[hplain]<;>rfl) (B1z ?_)
 exact thn hA fun us s2 ⟨vs,H2,I2,r2,q2⟩=>hm pins s2 σ H2 x vs v us Q I2 r1 r2 q2
end
def MtM (X:Cx)(id:String)(r:V->List V->Hp->VK->Prop):Prop:=
 ∀(pins:List (Addr×Obj)) (s:Shared) (σ:St) (H:Hp) (x:V) (xs:List V) (v:Value) (us:List Value) (Q:VK),Inv X pins σ H s->a4s x v->a5f xs us->r x xs H Q->
  wpAny (model X.prog X.w) X.A (call (.builtin id) (v::us)) (EP X pins σ Q) X.xe s
theorem a5f.one (h:a5f [x] us):∃u,us=[u]/\a4s x u:=by
 cases h with
 | cons r h=>
  cases h;exact⟨_,rfl,r⟩
theorem a5f.two {y:V}(h:a5f [x,y] us):∃u v,us=[u,v]/\a4s x u/\a4s y v:=by
 cases h with
 | cons r h=>
  cases h with
  | cons q h=>
   cases h;exact⟨_,_,rfl,r,q⟩
section
variable {X:Cx}{pins:List (Addr×Obj)}{σ:St}{H:Hp}{s:Shared}{l b:Addr}{xs ys zs:List V}
theorem Inv.lset {its':List Value}{n:Nat}{f:Array Value->Array Value}(I:Inv X pins σ H s)(hH:H l=some (.lst xs))
  (e:s.heap.get? l=some { cls:=.type "list",data:=.seq its.toArray n }) (hf:f its.toArray=its'.toArray) (hv:a5f ys its') (hz:ys.length<=sizeLine) :
  Inv X pins σ (upd H l (.lst ys)) { s with heap:=s.heap.update l (A8f f),toks:=t' }:=by
 have q:=PySem.IsL.update e f;rw[hf] at q;refine I.write (x:=l) (e:=l) (by rw[hH];exact trivial) (.inl rfl) (fun b' u hb hu=>(Heap.get?_update_other s.heap (A8f f) (A1e hb)).trans hu) ⟨_,q⟩ ?_;exact⟨hz,its',_,hv,q⟩
theorem Inv.lnew (I:Inv X pins σ H s)(hv:a5f ys its)(hz:ys.length<=sizeLine) :
  Inv X pins σ (upd H s.heap.objs.size (.lst ys)) { s with heap:=s.heap.push { cls:=.type "list",data:=.seq its.toArray },toks:=t' }:=
 I.laid (fun _ _ q=>Heap.get?_push_of_some _ q) (A0f _) ⟨hz,its,0,hv,Heap.get?_push_size _ rfl⟩
theorem Inv.fresh (I:Inv X pins σ H s):H s.heap.objs.size=none:=I.hok.fresh (A0f _)
theorem Inv.lstM (I:Inv X pins σ H s)(hH:H l=some (.lst xs)):xs.length<=sizeLine/\∃(its:List Value) (n:Nat),a5f xs its/\xs.length=its.length/\s.heap.get? l=some { cls:=.type "list",data:=.seq its.toArray n }:=by
 obtain⟨z,its,n,r,e⟩:=I.hok l _ hH;exact⟨z,its,n,r,r.length,e⟩
theorem notLongL {n:Nat}(h:n<=sizeLine):B0f n=false:=by
 unfold B0f;exact decide_eq_false (by omega)
end
section
variable {X:Cx}
def rAppend:V->List V->Hp->VK->Prop:=fun x vs H Q=>∃l xs y,x=.ref l/\vs=[y]/\H l=some (.lst xs)/\xs.length<sizeLine/\Q .non (upd H l (.lst (xs++[y])))
theorem mt_append:MtM X "list.append" rAppend:=by
 intro pins s σ H x vs v us Q I rx rv h;obtain⟨l,xs,y,rfl,rfl,hH,hz,q⟩:=h;cases rx;obtain⟨u,rfl,ru⟩:=rv.one;obtain⟨z,its,n,r,hl,e⟩:=I.lstM hH;refine call_meets F.slot_list_append ⟨_,e,rfl⟩ F.entry_list_append (F.args_list_append_2 _ _) (PySem.list_append l its.toArray n u (by rw[A1f];omega)) ⟨e,?_⟩;refine⟨.non,_,I.lset (its':=its++[u]) hH e (by simp) (r.append (.cons ru .nil)) ?_,rfl,q⟩;rw[A0s,A7t];omega
def rCat:R2:=fun x y H Q=>∃l b xs zs,x=.ref l/\y=.ref b/\H l=some (.lst xs)/\H b=some (.lst zs)/\xs.length+zs.length<=sizeLine/\∀p,H p=none->Q (.ref p) (upd H p (.lst (xs++zs)))
theorem op_cat:OpR X (binaryOp .Add) rCat:=by
 intro pins s σ H x y v u Q I rx ry h;obtain⟨l,b,xs,zs,rfl,rfl,hH,hB,hz,q⟩:=h;cases rx;cases ry;obtain⟨z,its,n,r,hl,e⟩:=I.lstM hH;obtain⟨z2,its2,n2,r2,hl2,e2⟩:=I.lstM hB;refine PySem.P.add_list e e2 ?_ (by rw[A1f,A1f];omega);have ea:its.toArray++its2.toArray=(its++its2).toArray:=by simp
 rw[ea];exact⟨.ref _,_,I.lnew (t':=s.toks) (r.append r2) (by rw[A0s];omega),rfl,q _ I.fresh⟩
end
section
variable {prog:Program}{w:World}{A:Around}{E:Value->Shared->Prop}{s:Shared}
theorem bounds_run {n:Nat}(hac:a<=c)(hc:c<=n):sliceBounds (some (a:Int)) (some (c:Int)) none n=((a:Int),(c:Int),1):=by
 simp only[sliceBounds,B1a];have h1:¬((a:Int)<0):=by omega
 have h2:¬((c:Int)<0):=by omega
 simp only[h1,h2,if_false,show (1:Int)>0 by decide,if_true]
 congr 1
 ·omega
 ·congr 1;omega
set_option maxRecDepth 100000 in
theorem setItem_slice {l b sl:Addr}{items new:Array Value}{n n2:Nat}{vl vu:Value}{Q:Unit->Shared->Prop}
  (e:s.heap.get? l=some { cls:=.type "list",data:=.seq items n }) (e2:s.heap.get? b=some { cls:=.type "list",data:=.seq new n2 }) (hne:l≠b)
  (hs:s.heap.IsSliceOf sl vl vu .none) (pl:IsPart vl (some (a:Int))) (pu:IsPart vu (some (c:Int))) (hac:a<=c) (hc:c<=items.size)
  (hsz:items.size+new.size<=sizeLine) (h:Q () { s with heap:=s.heap.update l (A8f fun xs=>xs.extract 0 a++new++xs.extract c xs.size) }) :
  wpAny (model prog w) A (setItem (.ref l) (.ref sl) (.ref b)) Q E s:=by
 have hl:s.heap.IsList l items:=B1b e;have hb:s.heap.IsList b new:=B1b e2;obtain⟨os,hos,hcs,hds⟩:=id hs;have hTs:s.TypeIs (.ref sl) "slice":=⟨os,hos,hcs⟩;have hstep:¬((rawPart none==rawInt 0)=true):=A1d
 have hsame:B0g (.ref l) (.ref b)=false:=by
  unfold B0g;exact beq_eq_false_iff_ne.mpr hne
 have hmax:(max (a:Int) (c:Int)).toNat=c:=by omega
 have hz':((fun xs:Array Value=>xs.extract 0 a++new++xs.extract c xs.size) items).size<=sizeLine+1:=by
  simp only[Array.size_append,A5m];omega
 unfold setItem
 try with_reducible refine A5b ?_
 first|refine A0b (A0h ?_)|skip
 refine A0b (A7j hl.typeIs (by decide) ?_)
 refine A0b (wpAny_callSpecial?_slot (name:=A9h "__setitem__") hl.typeIs A7m
  (A4g A7m hl.typeIs entry_list_setitem ?_ (args_list_setitem _ _ _)))
 show wpAny _ _ (Builtin.List.listSubscript? (.ref sl) >>= _) _ _ s;refine A0b ?_;unfold Builtin.List.listSubscript?;refine A0b (wpAny_specialOf hTs slice_no_index ?_);simp only[Option.isNone_none,if_true];refine A0h ?_;show wpAny _ _ (typeOf (.ref sl) >>= _) _ _ s;refine A0b (wpAny_typeOf hTs ?_)
 first
  | rw[if_neg (by decide)]
  | refine A9j (by decide) ?_
 rw[listSliceParts_eq];refine A0b (A0b (A8p hos hds (x:=.none) rfl (A0b (B2e .none ?_))));rw[if_neg hstep];refine A0b (A8p hos hds (x:=vl) rfl (A0b (B2e pl ?_)));refine A0b (A8p hos hds (x:=vu) rfl (A0b (B2e pu (A0h ?_))))
 first
  | simp only[hsame,A2b,if_false]
  | refine A9j hsame ?_
  | (dsimp only
     rw[if_neg (by rw[hsame];exact A1d)])
 refine A0b (m:=A9u (.ref b) "must assign iterable to extended slice") ?_;unfold A9u;refine A0b (wpAny_typeOf hb.typeIs ?_)
 first
  | refine PySem.W.KFB.if_so (by decide) ?_
  | rw[if_pos (by decide)]
  | simp only[beq_self_eq_true,Bool.true_or,if_true]
 unfold Builtin.List.listItems;refine A0b (wpAny_seqItems e2 rfl (A0h ?_));refine A0b (A0b (wpAny_seqItems e rfl (A0h ?_)));refine A0b (wpAny_of_eq ((sliceIndices_raw (some (a:Int)) (some (c:Int)) none items.size (by simp)).trans (congrArg (pure:Int×Int×Int->Sem (Int×Int×Int)) (bounds_run hac hc))) ?_);show wpAny _ _ (if ((1:Int)==1)=true then _ else _) _ _ s;rw[if_pos (by decide)];refine A0b (wpAny_rule ?_)
 first
  | simp only[notLongL hsz,A2b,if_false]
  | refine A9j (notLongL hsz) ?_
 first|refine A0b (A0h ?_)|skip
 show wpAny _ _ (updateSeq l (fun xs=>xs.extract 0 ((a:Int)).toNat++new++xs.extract (max (a:Int) (c:Int)).toNat xs.size) >>= _) _ _ s;rw[hmax,A3p];refine A0b (wpAny_updateSeq (hz:=A0y (Nat.le_add_right _ _) hsz) (_hz':=hz') e rfl ?_);refine A0b (wpAny_letGo ?_)
 first
  | exact A0b (A0h (A0h ⟨.none,rfl,A0h h⟩))
  | exact A0h ⟨.none,rfl,A0h h⟩
end
section
variable {X:Cx}
end
end L2
namespace Att
open PySem PySem.W PySem.Calls PyProof.Rows
variable {h:Heap}{l:OpenLaw}{P:Params}
theorem c9r :∀(ns:List Int) (vs:List Value),WellAll P h vs (ns.map WData.int)->IntsAre vs ns:=by
 intro ns
 induction ns with
 | nil=>
  intro vs w;rw[A5a] at w;cases w;exact .nil
 | cons n ns ih=>
  intro vs w;rw[A0m] at w
  cases w with
  | cons a b=>
   cases a;exact .cons _ _ (ih _ b)
theorem script_of {n:Nat}(hn:l.most=some n){args:List WData}{vals:List Value}
  (hpre:l.row.toRowW.claim.pre args=true) (hwl:WellAll P h vals args) :
  ∃a vs ns,vals=[A1w a]/\args=[WData.list (ns.map WData.int)]/\h.get? a=some { cls:=.type "list",data:=.seq vs.toArray }/\IntsAre vs ns/\ns.length<=n:=by
 have hsh:WShape.hasAll [] args [.list .int]=true:=(pre_splitW hpre).1;have hc:l.pre.holds [] { args:=args }=true:=(pre_splitW hpre).2;obtain⟨d,r,rfl,h1,h2⟩:=hasAllW_cons hsh;obtain rfl:=hasAllW_nil h2;obtain⟨xs,rfl,h3⟩:=hasW_list h1;obtain⟨ns,rfl⟩:=items_int h3
 have hlen:ns.length<=n:=by
  unfold OpenLaw.pre at hc
  have h4:(WTm.not (.lt (.lit (.int (n:Int))) (.len (.arg 0)))).holds [] { args:=[.list (ns.map .int)] }=true:=by
   have h4:=(holds_andW hc).1;rw[hn] at h4;exact h4
  have h5:=condW_of h4 (w_not (w_lt w_lit (w_len_list (w_arg rfl))));rw[A0c] at h5;refine Nat.le_of_not_lt fun q=>?_;have q':(n:Int)<((ns.length:Nat):Int):=by omega
  first
   | (rw[decide_eq_true q'] at h5;exact absurd h5 (by decide))
   | (simp at h5;omega)
 cases hwl with
 | cons w1 w2=>
  cases w2
  cases w1 with
  | list ho hall=>exact⟨_,_,ns,rfl,rfl,ho,c9r ns _ hall,hlen⟩
theorem post_true (l:OpenLaw)(args:List WData):l.row.toRowW.claim.post args (.bool true) args=true:=
 postW_of (r:=l.row.toRowW) (X:=(true==true))
  (show WShape.has [] (.bool true) .bool=true by first|rfl|decide|simp[WShape.has,WShape.arms,WShape.armsAll])
  (show (WTm.eq .res (.lit (.bool true))).value [] { args:=args,res:=some (.bool true),after:=args }=some (.bool (true==true)) from w_eq_bool (w_res rfl) w_lit) rfl
theorem attach_call {n:Nat}{q:Program}{loose:List Str}{XP:(Str->Option Value)->Heap->Prop}{YP:World->Heap->Prop}{d:DefRec}
  (hn:l.most=some n) (hdf:d.params.defaults=[])
  (call:∀(w:World) (s₀ s₁:Shared) (mg mb:Str->Option Value) (fa:Addr) (o:Obj) (pm cd doc:Value) (a:Addr) (vs:List Value) (ns:List Int),
   Ground q loose [] XP w s₀ mg mb s₁.heap->YP w s₁.heap->
   s₁.heap.get? fa=some o->o.data=.func (docDef d.name d.params d.body d.scope pm cd doc)->s₁.heap.CodeRec cd d.name->mg d.name=some (.ref fa)->
   s₁.heap.get? a=some { cls:=.type "list",data:=.seq vs.toArray }->IntsAre vs ns->ns.length<=n->s₁.gens= #[]->
   codeAny (model l.prog w) callerA (.call (.ref fa) ⟨[.ref a],[]⟩) (fun r s'=>r=.ok (.ret (.bool true))/\OldK s₁.heap s'.heap/\s'.os=s₁.os/\AllBare s'.gens) s₁) :
  WalkO q loose XP YP l.row.toRowW d [] (fun f vs=>B3b f vs):=by
 intro w s₀ s₁ mg mb G Y fa o pm cd doc dV kV ho hd hcd hD hmg hg args vals as hpre hlay hrd hwl hlo;obtain rfl:dV=.none:=Dflts.none hD hdf;obtain rfl:kV=.none:=Dflts.noKw hD;obtain⟨a,vs,ns,rfl,rfl,hobj,hints,hlen⟩:=script_of hn hpre hwl;refine enter_call (A6q (call w s₀ s₁ mg mb fa o pm cd doc a vs ns G Y ho (fd_plain hd) hcd hmg hobj hints hlen hg) fun r s' hq=>?_);obtain⟨rfl,h2,h3,h4⟩:=hq;exact⟨.inl ⟨.bool true,.bool true,[],rfl,fun _=>rfl,.bool true,post_true l _,fun _=>⟨List.Pairwise.nil,fun _ hm=>(nomatch hm)⟩⟩,h2,h3,h4⟩
section
variable {prog:Program}{w:World}{A:Around}{E:Value->Shared->Prop}{s:Shared}{K:Frag}
end
end Att
namespace L2
open PySem PySem.Spec PyProof.Rows
variable {K:A0a}{f:Addr}{A:Around}{X:Cx}{fd:FuncData}{h':Heap}{H H':Hp}{pins:List (Addr×Obj)}{kvs:List (List Key×V)}{trs:List (TE×TE)}{ps:List Str}{k:Nat}{o:Option V}{pos:Pos}{P:Program}{s:Shared}{σ:St}{st:Stmt}{qual:Str}{T:String}{y:V}{u:Value}{w:World}
theorem vals_ints:∀{vs:List Value} {ns:List Int},IntsAre vs ns->a5f (ns.map V.int) vs
 | _,_,.nil=>.nil
 | _,_,.cons n t h=>.cons ⟨t,rfl⟩ (vals_ints h)
def a1n (s:Stmt)(j:Nat):Stmt:=match s with
 | .ClassDef _ _ _ body _ _ _ _ _ _ _=>body.getD j (.Pass ⟨0,0,0,0⟩)
 | _=>.Pass ⟨0,0,0,0⟩
def a2w (s:Stmt):Arguments:=match s with
 | .FunctionDef _ a _ _ _ _ _ _ _ _=>a
 | _=>{ posonlyargs:=[],args:=[],vararg:=none,kwonlyargs:=[],kw_defaults:=[],kwarg:=none,defaults:=[] }
def a2j (s:Stmt):List Stmt:=match s with
 | .FunctionDef _ _ b _ _ _ _ _ _ _=>b
 | _=>[]
def a0f (s:Stmt):Scope:=match s with
 | .FunctionDef _ _ _ _ _ _ sc _ _ _=>sc
 | _=>{ kind:=.function,names:=[],isGenerator:=false,isCoroutine:=false }
abbrev CX0:CXT:=fun _ _ _ _ _ _=>False
abbrev E0:XK:=fun _ _ _=>False
theorem a0u :b7k CX0 X E0:=fun _ _ _ _ _ _ _ h=>h.elim
structure Fun (K:A0a)(x qual:Str)(st:Stmt)(f:Addr)(fd:FuncData):Prop where
 ex:∃(oc:Value) (od:Option Addr) (kV doc pm:Value) (an:Option Addr) (cdv ct:Value) (osl:Array (Option Value)),
  fd=A1x x qual (a2w st) (a2j st) (a0f st) .none kV doc pm an cdv ct/\K.lookup f=some ⟨oc,od,.func fd,osl⟩/\A2t K cdv qual=true
 kp:A1s K (.ref f)=true
section
variable {P:Program}{w:World}{K:A0a}{mg:Str->Option Value}{base:Heap}
theorem Fun.ok {x:Str}{N:List Str}{sp:Sp}(F:Fun K x qual st f fd)(S:a0r N ps (a0f st))(len:∀vs H Q E,sp vs H Q E->vs.length=ps.length)
  (hbody:∀(cdv:Value) (A:Around) (outer:List Env) (s:Shared) (H:Hp) (vs:List V) (Q:VK) (E:XK),b4h k (A.deeper (envOfC qual (a0f st) s.heap.objs.size f cdv))->sp vs H Q E->
   ∃t,PSs (cxOf CX0 P w K mg base N qual (a0f st) f cdv A outer s H E).nox (a2j st) t/\t { nx:=fun _ H'=>Q .non H',rt:=Q } (start N vs) H):a2k P w K mg base CX0 (k+1) f fd ps sp:=by
 obtain⟨oc,od,kV,doc,pm,an,cdv,ct,osl,rfl,lk,hcd⟩:=F.ex;refine fn_of lk hcd S len fun A outer s H vs Q E hr hsp=>?_;obtain⟨t,h,q⟩:=hbody cdv A outer s H vs Q E hr hsp;exact⟨t,h.nox,q⟩
theorem Fun.binds {x:Str}(F:Fun K x qual st f fd)
  (h:∀(kV doc pm:Value) (an:Option Addr) (cdv ct:Value) (us:List Value),us.length=ps.length->bindArgs (A1x x qual (a2w st) (a2j st) (a0f st) .none kV doc pm an cdv ct) ⟨us,[]⟩=pure (ps.zip us)):b9e K fd ps []:=by
 obtain⟨oc,od,kV,doc,pm,an,cdv,ct,osl,rfl,lk,hcd⟩:=F.ex;exact .all (h kV doc pm an cdv ct)
theorem fun_mk {x:Str}{oc:Value}{od an:Option Addr}{osl:Array (Option Value)}{kV doc pm cdv ct:Value}(l:K.lookup f=some ⟨oc,od,.func (A1x x qual (a2w st) (a2j st) (a0f st) .none kV doc pm an cdv ct),osl⟩)
  (c:A2t K cdv qual=true) (k:A1s K (.ref f)=true):Fun K x qual st f (A1x x qual (a2w st) (a2j st) (a0f st) .none kV doc pm an cdv ct):=⟨⟨oc,od,kV,doc,pm,an,cdv,ct,osl,rfl,l,c⟩,k⟩
end
theorem c7b (hr:b4h k A):A.units+1<cLine:=A2n (Nat.add_le_add_left (by decide:1<=64) _) hr.units
theorem a5r {n:Nat}(h:n<=1000):n<sizeLine:=A2n h (by decide)
section
variable {X:Cx}
theorem pv (i:Nat){x:Str}(hN:X.N[i]? = some x:=by rfl)(hv:Vis X.env.scope x:=by first|exact Or.inl rfl|exact Or.inr (Or.inl rfl)|exact Or.inr (Or.inr rfl))(hd:(x==("__debug__":Str))=false:=by decide)
  (hcd:(x==("__classdict__":Str))=false:=by decide):PE X (.Name x pos) (tVar i):=pe_var hN hv hd hcd
end
theorem iteF {A B:Prop}(h:B):if false=true then A else B:=by
 rw[if_neg A1d];exact h
theorem iteT {A B:Prop}(h:A):if true=true then A else B:=by
 rw[if_pos rfl];exact h
def a2f (H H':Hp):Prop:=∀b o,H b=some o->H' b=some o
theorem a2f.refl (H:Hp):a2f H H:=fun _ _ h=>h
theorem a2f.trans {H1 H2:Hp}(a:a2f H H1)(b:a2f H1 H2):a2f H H2:=fun c o h=>b c o (a c o h)
theorem a2f.seq {a:Addr}{xs:List V}(e:a2f H H')(h:SqL K H a xs):SqL K H' a xs:=by
 rcases h with (h|⟨o,h⟩)|h
 ·exact .inl (.inl (e _ _ h))
 ·exact .inl (.inr ⟨o,e _ _ h⟩)
 ·exact .inr h
section
variable {κ:Type} [DecidableEq κ]
def d0n (kvs:List (κ×V))(k:κ):Option V:=(kvs.find? fun kv=>decide (kv.1=k)).map (·.2)
def c5r (kvs:List (κ×V))(k:κ)(v:V):List (κ×V):=
 if (kvs.any fun kv=>decide (kv.1=k))=true then kvs.map (fun kv=>if kv.1=k then (kv.1,v) else kv) else kvs++[(k,v)]
theorem c6d {p:κ×V}{r:List (κ×V)}{k:κ}(e:p.1=k):d0n (p::r) k=some p.2:=by simp[d0n,List.find?_cons,e]
theorem c6f {p:κ×V}{r:List (κ×V)}{k:κ}(e:¬p.1=k):d0n (p::r) k=d0n r k:=by simp[d0n,List.find?_cons,e]
theorem valV_any (k:κ):∀kvs:List (κ×V),(kvs.any fun kv=>decide (kv.1=k))=(d0n kvs k).isSome
 | []=>rfl
 | p::r=>by
  rw[A8d]
  by_cases e:p.1=k
  ·simp only[c6d e,decide_eq_true e,Bool.true_or,Option.isSome_some]
  ·rw[c6f e,decide_eq_false e,Bool.false_or];exact valV_any k r
theorem b8b (kvs:List (κ×V))(k:κ)(v:V):(c5r kvs k v).length<=kvs.length+1:=by
 unfold c5r
 split
 ·rw[A0c];omega
 ·rw[A0s,A1a,A4v];omega
theorem RelO.isSome_eq {u:Option Value}(r:RelO o u):o.isSome=u.isSome:=by
 cases o with
 | none=>cases u with
  | none=>rfl
  | some _=>exact(show False from r).elim
 | some _=>cases u with
  | none=>exact(show False from r).elim
  | some _=>rfl
theorem RelO.getD {o:Option V}{u:Option Value}{d:V}{d':Value}(r:RelO o u)(rd:a4s d d'):a4s (o.getD d) (u.getD d'):=by
 cases o with
 | none=>cases u with
  | none=>exact rd
  | some _=>exact(show False from r).elim
 | some _=>cases u with
  | none=>exact(show False from r).elim
  | some _=>exact r
theorem KV.val {kvs:List (κ×V)}{vs:List (κ×Value)}(r:KV kvs vs)(k:κ):RelO (d0n kvs k) (valueAt vs k):=by
 unfold KV at r
 induction r with
 | nil=>exact A4e
 | @cons p q ps qs h t ih=>
  obtain⟨h1,h2⟩:=h
  by_cases e:p.1=k
  ·have e':q.1=k:=h1.symm.trans e;have b:valueAt (q::qs) k=some q.2:=by simp[valueAt,List.find?_cons,e']
   rw[c6d e,b];exact h2
  ·have e':¬q.1=k:=fun z=>e (h1.trans z);have b:valueAt (q::qs) k=valueAt qs k:=by simp[valueAt,List.find?_cons,e']
   rw[c6f e,b];exact ih
theorem KV.any {kvs:List (κ×V)}{vs:List (κ×Value)}(r:KV kvs vs)(k:κ):(kvs.any fun kv=>decide (kv.1=k))=vs.any fun kv=>decide (kv.1=k):=by
 unfold KV at r
 induction r with
 | nil=>rfl
 | cons h t ih=>rw[A8d,A8d,ih,h.1]
theorem KV.repl {kvs:List (κ×V)}{vs:List (κ×Value)}(r:KV kvs vs)(k:κ)(ry:a4s y u) :
  KV (kvs.map fun kv=>if kv.1=k then (kv.1,y) else kv) (vs.map fun kv=>if kv.1=k then (kv.1,u) else kv):=by
 unfold KV at r ⊢
 induction r with
 | nil=>exact .nil
 | @cons p q ps qs h t ih=>
  rw[A0m,A0m];refine .cons ?_ ih;obtain⟨h1,h2⟩:=h
  by_cases e:p.1=k
  ·rw[if_pos e,if_pos (h1.symm.trans e)];exact⟨h1,ry⟩
  ·rw[if_neg e,if_neg (fun z=>e (h1.trans z))];exact⟨h1,h2⟩
theorem KV.put {kvs:List (κ×V)}{vs:List (κ×Value)}(r:KV kvs vs)(k:κ)(ry:a4s y u):KV (c5r kvs k y) (stored vs k u):=by
 unfold c5r stored;rw[r.any k]
 by_cases e:(vs.any fun kv=>decide (kv.1=k))=true
 ·rw[if_pos e,if_pos e];exact r.repl k ry
 ·rw[if_neg e,if_neg e];exact Paired.snoc r ⟨rfl,ry⟩
theorem KV.keys {kvs:List (κ×V)}{vs:List (κ×Value)}(r:KV kvs vs):kvs.map (·.1)=vs.map (·.1):=by
 unfold KV at r
 induction r with
 | nil=>rfl
 | cons h t ih=>rw[A0m,A0m,ih,h.1]
theorem KV.length {kvs:List (κ×V)}{vs:List (κ×Value)}(r:KV kvs vs):kvs.length=vs.length:=B2r r
end
theorem kV_is {k:Key}(r:a4s (kV k) u):(a1s P w).is k u=true:=by
 cases k with
 | inl i=>obtain⟨t,e⟩:=(show ∃t,u=A6u i t from r);subst e;exact mixKind_int P w i t
 | inr x=>obtain⟨t,e⟩:=(show ∃t,u=B2q x t from r);subst e;exact mixKind_str P w x t
theorem items_are {P:Program}{w:World}:∀{ks:List Key} {us:List Value},a5f (ks.map kV) us->ItemsAre (a1s P w) ks us
 | [],_,r=>by rw[A5a] at r;cases r;exact .nil
 | k::ks,_,r=>by
  rw[A0m] at r
  cases r with
  | cons h t=>exact .cons (kV_is h) (items_are t)
abbrev KT (H:Hp):List (List Key×V)->List (List Key×Addr×Value)->Prop:=Paired fun p q=>p.1=q.1/\H q.2.1=some (.tup (p.1.map kV))/\a4s p.2 q.2.2
theorem KT.val {xs:List (List Key×Addr×Value)}(r:KT H kvs xs)(k:List Key):RelO (d0n kvs k) ((atKey xs k).map (·.2)):=by
 induction r with
 | nil=>exact A4e
 | @cons p q ps qs h t ih=>
  obtain⟨h1,_,h2⟩:=h
  by_cases e:p.1=k
  ·have e':q.1=k:=h1.symm.trans e;have b:atKey (q::qs) k=some q.2:=by simp[atKey,List.find?_cons,e']
   rw[c6d e,b];exact h2
  ·have e':¬q.1=k:=fun z=>e (h1.trans z);have b:atKey (q::qs) k=atKey qs k:=by simp[atKey,List.find?_cons,e']
   rw[c6f e,b];exact ih
theorem KT.repl {xs:List (List Key×Addr×Value)}(r:KT H kvs xs)(k:List Key)(ry:a4s y u) :
  KT H (kvs.map fun kv=>if kv.1=k then (kv.1,y) else kv) (xs.map (putAt k u)):=by
 induction r with
 | nil=>exact .nil
 | @cons p q ps qs h t ih=>
  rw[A0m,A0m];refine .cons ?_ ih;obtain⟨h1,h2,h3⟩:=h;unfold putAt
  by_cases e:p.1=k
  ·rw[if_pos e,if_pos (h1.symm.trans e)];exact⟨h1,h2,ry⟩
  ·rw[if_neg e,if_neg (fun z=>e (h1.trans z))];exact⟨h1,h2,h3⟩
theorem KT.put {xs:List (List Key×Addr×Value)}(r:KT H kvs xs)(k:List Key){b:Addr}(hb:H b=some (.tup (k.map kV)))(ry:a4s y u) :
  KT H (c5r kvs k y) (storedH xs k b u):=by
 have e:(kvs.any fun kv=>decide (kv.1=k))=(atKey xs k).isSome:=by
  rw[valV_any,(r.val k).isSome_eq,Option.isSome_map]
 unfold c5r storedH;rw[e]
 by_cases q:(atKey xs k).isSome=true
 ·rw[if_pos q,if_pos q];exact r.repl k ry
 ·rw[if_neg q,if_neg q];exact Paired.snoc r ⟨rfl,hb,ry⟩
theorem KT.keeps {xs:List (List Key×Addr×Value)}(r:KT H kvs xs)(ht:∀b ys,H b=some (.tup ys)->H' b=some (.tup ys)):KT H' kvs xs:=
 Paired.mapP r fun _ _ z=>⟨z.1,ht _ _ z.2.1,z.2.2⟩
section
variable {P:Program}{w:World}{H:Hp}{h:Heap}{a:Addr}
theorem rd_of {u:HO}(ok:HOk P w H h)(e:Rd H a u):a5g P w H h a u:=e.ok ok
theorem b6w {kvs:List (Key×V)}(ok:HOk P w H h)(e:Rd H a (.dK kvs)):kvs.length<=sizeLine/\(a==sysModules)=false/\∃vs,KV kvs vs/\h.DictOf (a1s P w) a vs:=
 show a5g P w H h a (.dK kvs) from rd_of ok e
theorem dk_of {kvs:List (Key×V)}(ok:HOk P w H h)(e:H a=some (.dK kvs)):kvs.length<=sizeLine/\(a==sysModules)=false/\∃vs,KV kvs vs/\h.DictOf (a1s P w) a vs:=b6w ok (.inl e)
theorem key_of {ks:List Key}(ok:HOk P w H h)(e:H a=some (.tup (ks.map kV))):(tupleKind (a1s P w)).is h ks a:=by
 obtain⟨_,its,r,o,h1,h2,n,h3⟩:=(show a5g P w H h a (.tup (ks.map kV)) from ok a _ e);exact⟨o,its.toArray,n,h1,h2,h3,by simpa using items_are r⟩
theorem dt_rd (ok:HOk P w H h)(e:Rd H a (.dT kvs)):kvs.length<=sizeLine/\(a==sysModules)=false/\
  ∃xs,KT H kvs xs/\h.DictOfH (tupleKind (a1s P w)) a xs:=by
 obtain⟨z,y,xs,r,o,es,ep,h1,h2,h3,h4,h5⟩:=(show a5g P w H h a (.dT kvs) from rd_of ok e);refine⟨z,y,xs,r,o,es,ep,h1,h2,h3,h4,fun x hx=>?_,h5⟩
 have all:∀{l:List (List Key×V)} {m:List (List Key×Addr×Value)},KT H l m->∀x∈m,(tupleKind (a1s P w)).is h x.1 x.2.1:=by
  intro l m q
  induction q with
  | nil=>intro x hx;exact nomatch hx
  | @cons p q ps qs hq t ih=>
   intro x hx
   rcases List.mem_cons.mp hx with e|hx
   ·subst e;exact key_of ok (by rw[<- hq.1];exact hq.2.1)
   ·exact ih x hx
 exact all r x hx
theorem dt_of (ok:HOk P w H h)(e:H a=some (.dT kvs)):kvs.length<=sizeLine/\(a==sysModules)=false/\
  ∃xs,KT H kvs xs/\h.DictOfH (tupleKind (a1s P w)) a xs:=dt_rd ok (.inl e)
end
def DGet (H:Hp)(a:Addr)(y:V)(r:Option V):Prop:=
 (∃kvs k,Rd H a (.dK kvs)/\y=kV k/\r=d0n kvs k)\/∃kvs k b,Rd H a (.dT kvs)/\y=.ref b/\H b=some (.tup (k.map kV))/\r=d0n kvs k
def DPut (H:Hp)(a:Addr)(y v:V)(H':Hp):Prop:=
 (∃kvs k,H a=some (.dK kvs)/\y=kV k/\kvs.length<sizeLine/\H'=upd H a (.dK (c5r kvs k v)))\/
 ∃kvs k b,H a=some (.dT kvs)/\y=.ref b/\H b=some (.tup (k.map kV))/\kvs.length<sizeLine/\H'=upd H a (.dT (c5r kvs k v))
section
variable {X:Cx}{pins:List (Addr×Obj)}{σ:St}{H:Hp}{s:Shared}{a:Addr}{y v:V}{u r:Value}{o:Option V}{A:Around}{E:Value->Shared->Prop}
theorem Inv.big (I:Inv X pins σ H s):sysModules<s.heap.objs.size:=by
 have h:mainGlobals<s.heap.objs.size:=(I.mod.glob.keeps I.bk).lt;exact B3n (by decide) h
theorem d_getItem {Q:Value->Shared->Prop}(hu:A.units+1<cLine)(I:Inv X pins σ H s)(g:DGet H a y (some v))(ry:a4s y u)(h:∀w' s',Inv X pins σ H s'->a4s v w'->Q w' s') :
  wpAny (model X.prog X.w) A (getItem (.ref a) u) Q E s:=by
 rcases g with ⟨kvs,k,e,ey,l⟩|⟨kvs,k,b,e,ey,eb,l⟩
 ·subst ey;obtain⟨z,hd,vs,rel,dd⟩:=b6w I.hok e;obtain⟨w',hw,rw'⟩:=RelO.some_of (v:=v) (o:=valueAt vs k) (by rw[l];exact rel.val k);exact wpAny_getItem_of (kV_is ry) dd.mapOf hw (h w' _ (I.tok _) rw')
 ·subst ey;cases (show u=A1w b from ry);obtain⟨z,hd,xs,rel,dd⟩:=dt_rd I.hok e;obtain⟨w',hw,rw'⟩:=RelO.some_of (v:=v) (o:=(atKey xs k).map (·.2)) (by rw[l];exact rel.val k)
  obtain⟨p,hp,hp2⟩:=Option.map_eq_some_iff.mp hw;refine wpAny_getItem_heap (A9k hu) (key_of I.hok eb) dd hp ?_;rw[hp2];exact h w' _ (I.tok _) rw'
theorem d_write {t':Nat}{ob:HO}(I:Inv X pins σ H s)(mu:Mut (H a))(hs:A9d a s.heap h')(he:∃q,h'.get? a=some q)(new:a5g X.prog X.w (upd H a ob) h' a ob) :
  Inv X pins σ (upd H a ob) { s with heap:=h',toks:=t' }:=
 I.write (x:=a) (e:=a) mu (.inl rfl) (fun b q hb z=>(hs.2 b hb).trans z) he new
theorem dk_new {kvs:List (Key×V)}{vs:List (Key×Value)}(z:kvs.length<=sizeLine)(hd:(a==sysModules)=false)(rel:KV kvs vs)(dd:h'.DictOf (a1s P w) a vs) :
  a5g P w H' h' a (.dK kvs):=⟨z,hd,vs,rel,dd⟩
theorem d_setItem {Q:Unit->Shared->Prop}(hu:A.units+1<cLine)(I:Inv X pins σ H s)(g:DPut H a y v H')(ry:a4s y u)(rv:a4s v r)(h:∀s',Inv X pins σ H' s'->Q () s') :
  wpAny (model X.prog X.w) A (setItem (.ref a) u r) Q E s:=by
 rcases g with ⟨kvs,k,e,ey,l,eH⟩|⟨kvs,k,b,e,ey,eb,l,eH⟩
 ·subst ey eH;obtain⟨z,hd,vs,rel,dd⟩:=dk_of I.hok e;have hz:vs.length<=sizeLine:=by rw[<- rel.length];exact z
  have hl:(c5r kvs k v).length<=sizeLine:=by have:=b8b kvs k v;omega
  refine wpAny_setItem_pairs (hsz:=hz) (kV_is ry) dd fun h' dd' hs=>h _ ?_;have he:∃q,h'.get? a=some q:=let ⟨q,_,_,hq,_⟩:=dd';⟨q,hq⟩;exact d_write I (by rw[e];exact A4e) hs he (dk_new hl hd (rel.put k rv) dd')
 ·subst ey eH;cases (show u=A1w b from ry);obtain⟨z,hd,xs,rel,dd⟩:=dt_of I.hok e;have hz:xs.length<=sizeLine:=by rw[<- B2r rel];exact z
  have hl:(c5r kvs k v).length<=sizeLine:=by have:=b8b kvs k v;omega
  refine wpAny_setItem_heap (hsz:=hz) (A9k hu) (key_of I.hok eb) dd fun h' dd' hs=>h _ ?_;obtain⟨q,es,ep,hq,h2,h3,h4,_,h5⟩:=dd';refine d_write I (by rw[e];exact A4e) hs ⟨q,hq⟩ ⟨hl,hd,_,(rel.put k eb rv).keeps fun c ys ec=>?_,q,es,ep,hq,h2,h3,h4,h5⟩;rw[a0q (c3r ec e (fun z=>nomatch z))];exact ec
end
section
variable {X:Cx}{pins:List (Addr×Obj)}{σ:St}{H:Hp}{s:Shared}{a:Addr}{kvs:List (Key×V)}{k:Key}{u:Value}{A:Around}{E:Value->Shared->Prop}
end
def NoSl (i:Expr):Prop:=∀ov iv,subscripted i false ov iv=operate [ov,iv] (getItem ov iv)
theorem subD_of {prog:Program}{E:Value->Shared->Prop}{env:Env}{value slice:Expr}{id:String}{Q:Value->Shared->Prop}
  (hl:typeLookup (.type T) "__getitem__" = pure (some (.builtin id))) (hs:NoSl slice)
  (h:wpAny (model prog w) A (eval value env) (fun o s₁=>wpAny (model prog w) A (eval slice env) (fun i s₂=>s₂.TypeIs o T/\wpAny (model prog w) A (getItem o i) Q E s₂) E s₁) E s) :
  wpAny (model prog w) A (eval (.Subscript value slice pos) env) Q E s:=by
 refine Subscript_ (A2m h (fun o s₁ h₁=>A2m h₁ (fun i s₂ h₂=>?_) fun _ _ x=>x) fun _ _ x=>x);obtain⟨hT,h₂⟩:=h₂;unfold subscriptTail;refine A0b ?_;rw[getitemInPython_of_ne hT.not_modules];refine A0b (wpAny_specialOf hT hl ?_)
 have fin:wpAny (model prog w) A (subscripted slice false o i) (fun r s₃=>wpAny (model prog w) A (letTemporaryGo value o r >>= fun _=>pure r) Q E s₃) E s₂:=by
  rw[hs o i];exact wpAny_operating (A2m h₂ (fun r s₃ h₃=>A0b (wpAny_letTemporaryGo (A0h h₃))) fun _ _ x=>x)
 first
  | exact A0h (A0b fin)
  | exact A0b (A0h (A0b fin))
  | exact A0b fin
theorem dict_typeIs {a:Addr}(I:Inv X pins σ H s)(g:DGet H a y o):s.TypeIs (.ref a) "dict":=by
 rcases g with ⟨kvs,k,e,_,_⟩|⟨kvs,k,b,e,_,_,_⟩
 ·obtain⟨_,_,vs,_,dd⟩:=b6w I.hok e;exact dd.typeIs
 ·obtain⟨_,_,xs,_,dd⟩:=dt_rd I.hok e;exact dd.typeIs
def tDGet (td ty:TE):TE:=fun σ H Q=>td σ H fun x H1=>ty σ H1 fun y H2=>∃a v,x=.ref a/\DGet H2 a y (some v)/\Q v H2
def sDPut (td ty tv:TE):TS:=fun D σ H=>tv σ H fun v H1=>td σ H1 fun x H2=>ty σ H2 fun y H3=>∃a H4,x=.ref a/\DPut H3 a y v H4/\D.nx σ H4
section
variable {X:Cx}{o i e value:Expr}{pos pos' tpos:Pos}{td ty tv:TE}
theorem d7b (hu:X.A.units+1<cLine)(ho:PE X o td)(hi:PE X i ty)(hs:NoSl i):PE X (.Subscript o i pos) (tDGet td ty):=by
 intro pins s σ H Q I h;refine subD_of PySem.F.slot_dict_getitem.lookup hs (thn (ho pins s σ H _ I h) fun u s1 ⟨x,H1,I1,rx,q1⟩=>thn (hi pins s1 σ H1 _ I1 q1) fun iv s2 hq9=>?_);obtain⟨y,H2,I2,ry,a,v,ex,g,q2⟩:=hq9;subst ex;obtain rfl:u=A1w a:=rx;exact⟨dict_typeIs I2 g,d_getItem hu I2 g ry fun w' s3 I3 rw'=>⟨v,H2,I3,rw',q2⟩⟩
theorem c1g (hu:X.A.units+1<cLine)(ho:PE X o td)(hi:PE X i ty)(hv:PE X value tv)(hs:swapsWith value (some (.Subscript o i pos')) pos.line X.env=pure false) :
  PS X (.Assign [.Subscript o i pos'] value pos) (sDPut td ty tv):=by
 intro pins s σ H D I h;refine wpAny_Assign_Subscript (thn (hv pins s σ H _ I h) fun r s1 ⟨v,H1,I1,rv,q1⟩=>thn (ho pins s1 σ H1 _ I1 q1) fun u s2 ⟨x,H2,I2,rx,q2⟩=>thn (hi pins s2 σ H2 _ I2 q2) fun iv s3 ⟨y,H3,I3,ry,a,H4,ex,g,q3⟩=>?_) hs;subst ex;obtain rfl:u=A1w a:=rx;exact d_setItem hu I3 g ry rv fun s4 I4=>⟨σ,H4,I4,q3⟩
end
theorem dk_empty (h:Heap)(hb:sysModules<h.objs.size):a5g P w H (h.push { cls:=.type "dict",data:=.dict #[] }) h.objs.size (.dK []):=
 ⟨A1v _,beq_eq_false_iff_ne.mpr (A1e (A1j hb)),[],.nil,B3u h⟩
section
variable {X:Cx}{pos:Pos}
end
def tPairs:List (TE×TE)->St->Hp->(List (V×V)->Hp->Prop)->Prop
 | [],_,H,Q=>Q [] H
 | (tk,tv)::r,σ,H,Q=>tk σ H fun x H1=>tv σ H1 fun y H2=>tPairs r σ H2 fun ps H3=>Q ((x,y)::ps) H3
abbrev VV:List (V×V)->List (Value×Value)->Prop:=Paired fun p q=>a4s p.1 q.1/\a4s p.2 q.2
def PPs (X:Cx)(pos:Pos)(keys:List (Option Expr))(values:List Expr)(trs:List (TE×TE)):Prop:=
 ∀(pins:List (Addr×Obj)) (s:Shared) (σ:St) (H:Hp) (Q:List (V×V)->Hp->Prop),Inv X pins σ H s->tPairs trs σ H Q->
  wpAny (model X.prog X.w) X.A (evalPairs (pairTrees keys values X.env pos)) (fun vs s'=>∃ps H',Inv X pins σ H' s'/\VV ps vs/\Q ps H') X.xe s
theorem pps_nil :PPs X pos [] [] []:=fun pins s σ H Q I h=>pairTrees_nil_walk ⟨[],H,I,.nil,h⟩
theorem pps_cons {k v:Expr}{ks:List (Option Expr)}{vs:List Expr}{tk tv:TE}(hk:PE X k tk)(hv:PE X v tv)(hr:PPs X pos ks vs trs) :
  PPs X pos (some k::ks) (v::vs) ((tk,tv)::trs):=fun pins s σ H Q I h=>
 pairTrees_cons_walk (thn (hk pins s σ H _ I h) fun u s1 ⟨x,H1,I1,rx,q1⟩=>thn (hv pins s1 σ H1 _ I1 q1) fun w2 s2 ⟨y,H2,I2,ry,q2⟩=>
  thn (hr pins s2 σ H2 _ I2 q2) fun ws s3 ⟨ps,H3,I3,rel,q3⟩=>⟨(x,y)::ps,H3,I3,.cons ⟨rx,ry⟩ rel,q3⟩)
def d2p (kvs more:List (Key×V)):List (Key×V):=more.foldl (fun acc kv=>c5r acc kv.1 kv.2) kvs
theorem KV.merge:∀{more:List (Key×V)} {rs:List (Key×Value)} {kvs:List (Key×V)} {vs:List (Key×Value)},KV more rs->KV kvs vs->KV (d2p kvs more) (merged vs rs):=by
 intro more rs kvs vs r;unfold KV at r
 induction r generalizing kvs vs with
 | nil=>intro q;exact q
 | @cons p q ps qs h t ih=>
  intro r0
  have e:KV (c5r kvs p.1 p.2) (stored vs q.1 q.2):=by
   have:=r0.put p.1 h.2;rw[<- h.1];exact this
  exact ih e
theorem c0v:∀(more kvs:List (Key×V)),(d2p kvs more).length<=kvs.length+more.length
 | [],kvs=>by show kvs.length<=kvs.length+0;omega
 | p::r,kvs=>by
  have h1:=c0v r (c5r kvs p.1 p.2);have h2:=b8b kvs p.1 p.2;show (d2p (c5r kvs p.1 p.2) r).length<=_;rw[A1a];omega
theorem d2k {P:Program}{w:World}:∀{kvs:List (Key×V)} {ws:List (Value×Value)},VV (kvs.map fun kv=>(kV kv.1,kv.2)) ws->∃rs,Carries (a1s P w) ws rs/\KV kvs rs
 | [],_,r=>by rw[A5a] at r;cases r;exact⟨[],A4e,.nil⟩
 | p::kvs,_,r=>by
  rw[A0m] at r
  cases r with
  | @cons a b as bs h t=>
   obtain⟨rs,c,q⟩:=d2k (P:=P) (w:=w) t;obtain⟨b1,b2⟩:=b;exact⟨(p.1,b2)::rs,⟨kV_is h.1,rfl,c⟩,.cons ⟨rfl,h.2⟩ q⟩
def tDisp (trs:List (TE×TE)):TE:=fun σ H Q=>∀p,H p=none->tPairs trs σ (upd H p (.dK [])) fun ps H2=>H2 p=some (.dK [])/\∃kvs:List (Key×V),ps=kvs.map (fun kv=>(kV kv.1,kv.2))/\kvs.length<=15/\Q (.ref p) (upd H2 p (.dK (d2p [] kvs)))
theorem pe_disp {keys:List (Option Expr)}{values:List Expr}(h:PPs X pos keys values trs)(hall:keys.all (·.isSome)=true)(hl:keys.length=values.length)(h0:keys≠[])
  (h15:keys.length<=15):PE X (.Dict keys values pos) (tDisp trs):=by
 intro pins s σ H Q I q;have hn:=I.hok.fresh (A0f s.heap.objs.size);have I1:=I.laid (a:=s.heap.objs.size) (o:=.dK []) (h':=s.heap.push { cls:=.type "dict",data:=.dict #[] }) (t':=s.toks) (fun _ _ q=>Heap.get?_push_of_some _ q) (A0f _) (dk_empty s.heap I.big);refine wpAny_Dict_walk (knd:=a1s X.prog X.w) hall hl h0 h15 (thn (h pins _ σ _ _ I1 (q _ hn)) fun ws s2 hq9=>?_);obtain⟨ps,H2,I2,rel,e,kvs,ep,lk,q2⟩:=hq9;subst ep;obtain⟨rs,c,rk⟩:=d2k (P:=X.prog) (w:=X.w) rel;obtain⟨z,hd,vs0,r0,dd⟩:=dk_of I2.hok e;cases r0;refine⟨rs,c,dd,fun h' dd' hs=>⟨.ref s.heap.objs.size,_,?_,rfl,q2⟩⟩
 have hz:(d2p [] kvs).length<=sizeLine:=by
  have h1:=c0v kvs [];rw[A4v] at h1;rw[A8m];omega
 have he:∃q,h'.get? s.heap.objs.size=some q:=let ⟨q,_,_,hq,_⟩:=dd';⟨q,hq⟩;exact d_write I2 (by rw[e];exact A4e) hs he (dk_new hz hd (rk.merge .nil) dd')
structure M1 (X:Cx)(o:Expr)(m:Str)(apos:Pos)(e:Expr)(cpos:Pos):Prop where
 base:attributeBase o m X.env (eval o X.env)=eval o X.env
 few:((backTo cpos (starEach [e] X.env)).all (fun x=>!x.1)&&(backToKw cpos (keywordEach [] X.env)).all (fun x=>x.1.isSome)
  && decide (([e]:List Expr).length+([]:List Keyword).length+(if ([]:List Keyword).isEmpty then 0 else 1)<30))=true
 line:(apos.endLine==cpos.line)=true
 trees:backTo cpos (starEach [e] X.env)=[(false,eval e X.env)]
structure M2 (X:Cx)(o:Expr)(m:Str)(apos:Pos)(e f:Expr)(cpos:Pos):Prop where
 base:attributeBase o m X.env (eval o X.env)=eval o X.env
 few:((backTo cpos (starEach [e,f] X.env)).all (fun x=>!x.1)&&(backToKw cpos (keywordEach [] X.env)).all (fun x=>x.1.isSome)
  && decide (([e,f]:List Expr).length+([]:List Keyword).length+(if ([]:List Keyword).isEmpty then 0 else 1)<30))=true
 line:(apos.endLine==cpos.line)=true
 trees:backTo cpos (starEach [e,f] X.env)=[(false,eval e X.env),(false,eval f X.env)]
def IsD (H:Hp)(a:Addr):Prop:=(∃kvs,Rd H a (.dK kvs))\/∃kvs,Rd H a (.dT kvs)
theorem isD_at {a:Addr}(I:Inv X pins σ H s)(d:IsD H a) :
  s.TypeIs (.ref a) "dict"/\(∀b,A1w a=.ref b->∃ob,s.heap.get? b=some ob/\ob.dict=none)/\(a==sysModules)=false:=by
 rcases d with ⟨kvs,e⟩|⟨kvs,e⟩
 ·obtain⟨_,hd,vs,_,dd⟩:=b6w I.hok e;refine⟨dd.typeIs,fun b q=>?_,hd⟩;cases q;obtain⟨ob,_,_,h1,h2,_⟩:=dd;exact⟨ob,h1,h2.2.1⟩
 ·obtain⟨_,hd,xs,_,dd⟩:=dt_rd I.hok e;refine⟨dd.typeIs,fun b q=>?_,hd⟩;cases q;obtain⟨ob,_,_,h1,h2,_⟩:=dd;exact⟨ob,h1,h2.2.1⟩
section
variable {X:Cx}{pins:List (Addr×Obj)}{σ:St}{H:Hp}{s:Shared}{a:Addr}{y d:V}{u r:Value}{o:Option V}{A:Around}{E:Value->Shared->Prop}
theorem d_get2 {Q:Value->Shared->Prop}(hu:A.units+1<cLine)(I:Inv X pins σ H s)(g:DGet H a y o)(ry:a4s y u)(rd:a4s d r)(h:∀w' s',Inv X pins σ H s'->a4s (o.getD d) w'->Q w' s') :
  wpAny (model X.prog X.w) A (call (.builtin "dict.get") [.ref a,u,r]) Q E s:=by
 rcases g with ⟨kvs,k,e,ey,l⟩|⟨kvs,k,b,e,ey,eb,l⟩
 ·subst ey;obtain⟨z,hd,vs,rel,dd⟩:=b6w I.hok e;refine call_meetsIn A7u dd.typeIs B1e (B0r _ _ _) (meets_dict_get_default (a1s X.prog X.w) a (kV_is ry) hd r) ⟨_,dd.mapOf,h _ _ (I.tok _) ?_⟩;rw[l];exact(rel.val k).getD rd
 ·subst ey;cases (show u=A1w b from ry);obtain⟨z,hd,xs,rel,dd⟩:=dt_rd I.hok e;refine call_meetsIn A7u dd.typeIs B1e (B0r _ _ _) (meetsH_dict_get_default (tupleKind (a1s X.prog X.w)) a b hd r) ⟨A9k hu,k,xs,key_of I.hok eb,dd,h _ _ (I.tok _) ?_⟩;rw[l];exact(rel.val k).getD rd
end
def tDGet2 (td ty tx:TE):TE:=fun σ H Q=>td σ H fun x H1=>∃a,x=.ref a/\IsD H1 a/\ty σ H1 fun y H2=>tx σ H2 fun z H3=>∃o,DGet H3 a y o/\Q (o.getD z) H3
section
variable {X:Cx}{o e f:Expr}{apos cpos:Pos}{td ty tx:TE}
theorem pe_dget2 (hu:X.A.units+1<cLine)(ho:PE X o td)(he:PE X e ty)(hf:PE X f tx)(m:M2 X o "get" apos e f cpos):PE X (.Call (.Attribute o "get" apos) [e,f] [] cpos) (tDGet2 td ty tx):=by
 intro pins s σ H Q I h;refine wpAny_Call_method m.base m.few m.line B0s A7u PySem.F.type_dict_get (thn (ho pins s σ H _ I h) fun u s1 hq9=>?_);obtain⟨x,H1,I1,rx,a,ex,d,q1⟩:=hq9;subst ex;obtain rfl:u=A1w a:=rx;obtain⟨t1,t2,_⟩:=isD_at I1 d;refine⟨t1,t2,?_⟩;rw[m.trees]
 refine A5g rfl (B1z (A9g (thn (he pins s1 σ H1 _ I1 q1) fun iv s2 ⟨y,H2,I2,ry,q2⟩=>
  A9g (thn (hf pins s2 σ H2 _ I2 q2) fun fv s3 ⟨z,H3,I3,rz,ov,g,q3⟩=>Calls.spliced_nil ?_))))
 exact d_get2 hu I3 g ry rz fun w' s4 I4 rw'=>⟨_,H3,I4,rw',q3⟩
end
section
variable {X:Cx}{pins:List (Addr×Obj)}{σ:St}{H:Hp}{s:Shared}{a:Addr}{kvs:List (Key×V)}{A:Around}{E:Value->Shared->Prop}
theorem d_copyOf {Q:Value->Shared->Prop}(I:Inv X pins σ H s)(e:Rd H a (.dK kvs))(h:∀p s',H p=none->Inv X pins σ (upd H p (.dK kvs)) s'->Q (.ref p) s'):wpAny (model X.prog X.w) A (call (.type "dict") [.ref a]) Q E s:=by
 obtain⟨z,hd,vs,rel,dd⟩:=b6w I.hok e;refine kt_call_dict hd dd (by rw[<- rel.length];exact z) fun h' dd' hs=>?_;refine h _ _ (I.hok.fresh (A0f _)) (I.laid (a:=s.heap.objs.size) (o:=.dK kvs) (t':=s.toks) (fun b q hq=>?_) (A0f _) (dk_new z (beq_eq_false_iff_ne.mpr (A1e (A1j I.big))) rel dd'));exact(hs.2 b (A1j (A0n hq))).trans (Heap.get?_push_of_some _ hq)
end
section
variable {X:Cx}{pins:List (Addr×Obj)}{σ:St}{H:Hp}{s:Shared}{a:Addr}{y:V}{u:Value}{A:Around}{E:Value->Shared->Prop}
end
section
variable {X:Cx}
end
section
variable {κ:Type} [DecidableEq κ]
end
structure Cal (P:Program)(w:World)(K:A0a)(mg:Str->Option Value)(base:Heap)(CX:CXT)(k:Nat)(x:Str)(ps:List Str)(sp:Sp):Prop where
 ex:∃f fd,a2k P w K mg base CX k f fd ps sp/\b9e K fd ps []/\A1s K (.ref f)=true/\mg x=some (.ref f)
def GC (mg:Str->Option Value)(x:Str)(v:V):Prop:=∃u,mg x=some u/\a4s v u
section
variable {X:Cx}{CX:CXT}{j k:Nat}{ps:List Str}{sp:Sp}{E:XK}{x:Str}{v:V}{p pos:Pos}{e:Expr}{es:List Expr}{t:TA}
theorem a0y (c:Cal X.prog X.w X.K X.mg X.base CX k x ps sp)(hr:b4h j X.A)(hx:b7k CX X E)(ha:PA X (e::es) t)(hk:k<=j:=by decide)(hg:Gl X x:=by rfl)(hdb:(x==("__debug__":Str))=false:=by decide)
  (he:starEach (e::es) X.env=(false,eval e X.env)::starEach es X.env:=by rfl) (hpl:(backTo pos (starEach es X.env)).any (·.1)=false:=by rfl) :
  PE X (.Call (.Name x p) (e::es) [] pos) (tCall sp [] E t):=by
 obtain⟨f,fd,F,b,kp,m⟩:=c.ex;exact pe_call F (hr.mono hk) hg m kp b .nil hx ha hdb he hpl
theorem a1z (h:GC X.mg x v)(hg:Gl X x:=by rfl)(hd:(x==("__debug__":Str))=false:=by decide):PE X (.Name x pos) (tC v):=by
 obtain⟨u,m,r⟩:=h;exact pe_glob hg m r hd
def CDivW (i j:Int):Prop:=0<j/\j<2^200
theorem c5x:OpR X (binaryOp .FloorDiv) (rI CDivW fun i j=>.int (i/j)):=opI fun i j _ _ _ _ _ hc q=>by
 have h1:(0:Int)<j:=hc.1;have h2:j<2^200:=hc.2;have h3:j.natAbs<2^200:=by omega
 have h4:j.natAbs.log2<200:=(Nat.log2_lt (by omega)).mpr h3;exact floordiv_int (by omega) (by rw[A9a i (by omega)];exact q) (.inl (PyProof.noPylong_of_log2 (by omega)))
end
mutual
inductive DV (K:A0a) (H:Hp):V->PyData->Prop
 | non:DV K H .non .none
 | bl (b:Bool):DV K H (.bl b) (.bool b)
 | int (i:Int):DV K H (.int i) (.int i)
 | str (x:Str):DV K H (.str x) (.str x)
 | tup {a xs ds}:SqT K H a xs->DVs K H xs ds->DV K H (.ref a) (.tuple ds)
 | lst {a xs ds}:SqL K H a xs->DVs K H xs ds->DV K H (.ref a) (.list ds)
inductive DVs (K:A0a) (H:Hp):List V->List PyData->Prop
 | nil:DVs K H [] []
 | cons {x xs d ds}:DV K H x d->DVs K H xs ds->DVs K H (x::xs) (d::ds)
end
section
variable {X:Cx}{pins:List (Addr×Obj)}{σ:St}{H:Hp}{s:Shared}
mutual
theorem DV.reads (I:Inv X pins σ H s):∀{x:V} {d:PyData} {u:Value},DV X.K H x d->a4s x u->∃as,Reads s.heap u d as
 | _,_,_,.non,r=>by cases r;exact⟨_,Reads.none⟩
 | _,_,_,.bl b,r=>by cases r;exact⟨_,Reads.bool b⟩
 | _,_,_,.int i,r=>by obtain⟨t,rfl⟩:=r;exact⟨_,Reads.int i t⟩
 | _,_,_,.str x,r=>by obtain⟨t,rfl⟩:=r;exact⟨_,Reads.str x t⟩
 | _,_,_,.tup h hs,r=>by
  cases r;obtain⟨its,rs,⟨o,ho,hc,n,hd⟩,_⟩:=I.tuple h;obtain⟨as,q⟩:=DVs.reads I hs rs;exact⟨_,reads_tuple_at ho hc hd (by simpa using q)⟩
 | _,_,_,.lst h hs,r=>by
  cases r;obtain⟨its,rs,⟨o,n,ho,hc,_,hd⟩,_⟩:=I.list h;obtain⟨as,q⟩:=DVs.reads I hs rs;exact⟨_,reads_list_at ho hc hd (by simpa using q)⟩
theorem DVs.reads (I:Inv X pins σ H s):∀{xs:List V} {ds:List PyData} {us:List Value},DVs X.K H xs ds->a5f xs us->∃as,ReadsAll s.heap us ds as
 | _,_,_,.nil,.nil=>⟨_,ReadsAll.nil⟩
 | _,_,_,.cons h hs,.cons r rs=>by
  obtain⟨as,q⟩:=DV.reads I h r;obtain⟨bs,p⟩:=DVs.reads I hs rs;exact⟨_,ReadsAll.cons q p⟩
end
def rEqD (K:A0a):R2:=fun x y H Q=>∃d e,DV K H x d/\DV K H y e/\A4k d=true/\A4k e=true/\Q (.bl (A2q d e)) H
def rNeD (K:A0a):R2:=fun x y H Q=>∃d e,DV K H x d/\DV K H y e/\A4k d=true/\A4k e=true/\Q (.bl (!A2q d e)) H
theorem op_eqD (hu:X.A.units+64<cLine):OpR X (compareOp .Eq) (rEqD X.K):=by
 intro pins s σ H x y v u Q I rx ry h;obtain⟨d,e,hd,he,sd,se,q⟩:=h;obtain⟨as,ra⟩:=hd.reads I rx;obtain⟨bs,rb⟩:=he.reads I ry;exact eq_dataH ra rb sd se hu ⟨.bl _,H,I,rfl,q⟩
theorem op_neD (hu:X.A.units+64<cLine):OpR X (compareOp .NotEq) (rNeD X.K):=by
 intro pins s σ H x y v u Q I rx ry h;obtain⟨d,e,hd,he,sd,se,q⟩:=h;obtain⟨as,ra⟩:=hd.reads I rx;obtain⟨bs,rb⟩:=he.reads I ry;exact ne_dataH ra rb sd se hu ⟨.bl _,H,I,rfl,q⟩
end
theorem a2f.tup {a:Addr}{xs:List V}(e:a2f H H')(h:SqT K H a xs):SqT K H' a xs:=by
 rcases h with (h|⟨o,h⟩)|h
 ·exact .inl (.inl (e _ _ h))
 ·exact .inl (.inr ⟨o,e _ _ h⟩)
 ·exact .inr h
theorem a0c {p:Addr}(h:H p=none)(o:HO):a2f H (upd H p o):=fun b u q=>by rw[a0q (a0p q h)];exact q
theorem boot_bool:bootBuiltins "bool" = some (.type "bool"):=by decide +kernel
theorem boot_int:bootBuiltins "int" = some (.type "int"):=by decide +kernel
theorem boot_str:bootBuiltins "str" = some (.type "str"):=by decide +kernel
theorem c8p:bootBuiltins "list" = some (.type "list"):=by decide +kernel
theorem c1k:bootBuiltins "tuple" = some (.type "tuple"):=by decide +kernel
theorem boot_dict:bootBuiltins "dict" = some (.type "dict"):=by decide +kernel
section
variable {X:Cx}
def rIsi (K:A0a)(c:V)(cv:Value):List V->Hp->VK->Prop:=fun xs H Q=>∃x t b,xs=[x,c]/\b8x K H x t/\A3u K t cv=some b/\Q (.bl b) H
theorem call_isi {c:V}{cv:Value}(hc:∀u,a4s c u->u=cv):b3k X (.builtin "isinstance") (rIsi X.K c cv):=by
 intro pins s σ H xs us Q I r h;obtain⟨x,t,b,rfl,ty,e,q⟩:=h;obtain⟨u,w,rfl,ru,rw'⟩:=a5f.two r;cases hc w rw';exact isinst_ok I ru ty e fun tk=>⟨.bl b,H,I.tok tk,rfl,q⟩
theorem d3k {x:Str}{p p2:Pos}{e:Expr}{te:TE}(hg:Gl X "isinstance")(hm:X.mg "isinstance" = none)(he:PE X e te)(hmT:X.mg x=none)(hT:bootBuiltins x=some (.type T))(hgT:Gl X x:=by rfl)(hn:x ≠ "__name__":=by decide)(hd:(x==("__debug__":Str))=false:=by decide)
  (h1:starEach [e,.Name x p2] X.env=(false,eval e X.env)::starEach [.Name x p2] X.env:=by rfl) (h2:(backTo pos (starEach [.Name x p2] X.env)).any (·.1)=false:=by rfl) :
  PE X (.Call (.Name "isinstance" p) [e,.Name x p2] [] pos) (tCB (rIsi X.K (.ty T) (.type T)) (d1f te (d1f (tC (.ty T)) tNil))):=
 a3e (call_isi fun u hu=>hu) hg hm boot_isinstance (a0a he (a0a (pe_bltn hgT hmT hT rfl hn hd) a0j) h1) (by decide) (by decide) h1 h2
end
end L2
namespace Tw
theorem pop_dec {n:Nat}(h:¬n=0):n/2<n:=Nat.div_lt_self (Nat.pos_of_ne_zero h) (by decide)
def pop (n:Nat):Nat:=if h:n=0 then 0 else n%2+pop (n/2)
termination_by n
decreasing_by exact pop_dec h
theorem a7z:pop 0=0:=by rw[pop];rfl
theorem b3a (n:Nat):pop n=n%2+pop (n/2):=by
 by_cases h:n=0
 ·subst h;rw[a7z]
 ·rw[pop,dif_neg h]
theorem d5s (a b:Nat):(a&&&b)%2=(a%2)*(b%2):=by
 have h:=Nat.and_two_pow_sub_one_eq_mod;have ha:a%2=a&&&1:=(A3b a).symm;rw[<- A3b,<- A3b,<- A3b]
 have e:(a&&&b)&&&1=(a&&&1)&&&(b&&&1):=by
  apply A0p;intro i;simp only[A2f];cases a.testBit i<;>cases b.testBit i<;>cases (1:Nat).testBit i<;>rfl
 rw[e,A3b a,A3b b]
 rcases A2e a with h|h<;>rcases A2e b with h'|h'<;>rw[h,h']<;>rfl
theorem c0z (a b:Nat):(a&&&b)/2=(a/2)&&&(b/2):=by
 apply A0p;intro i;rw[A2f,A2r,A2r,A2r,A2f]
theorem pop_pred:∀n:Nat,0<n->pop (n&&&(n-1))+1=pop n:=by
 intro n
 induction n using A6x with
 | ind n ih=>
  intro h;rw[b3a (n&&&(n-1)),b3a n,d5s,c0z]
  rcases A2e n with e|e
  ·have h2:0<n/2:=by omega
   have e2:(n-1)/2=n/2-1:=by omega
   have:=ih (n/2) (by omega) h2;rw[e2,e];omega
  ·have e2:(n-1)/2=n/2:=by omega
   have e3:(n-1)%2=0:=by omega
   have e4:n/2&&&n/2=n/2:=B3p _;rw[e2,e3,e,e4];omega
theorem c9y {n:Nat}(h:0<n):n&&&(n-1)<n:=by
 have:=Nat.and_le_right (n:=n) (m:=n-1);omega
def cnt (p:Nat->Bool):Nat->Nat
 | 0=>0
 | k+1=>cnt p k+(p k).toNat
theorem cnt_succ' (p:Nat->Bool):∀k,cnt p (k+1)=(p 0).toNat+cnt (fun i=>p (i+1)) k
 | 0=>by simp[cnt]
 | k+1=>by
  have:=cnt_succ' p k;rw[cnt,this,cnt];omega
theorem a8f {p q:Nat->Bool}:∀{k:Nat},(∀i,i<k->p i=q i)->cnt p k=cnt q k
 | 0,_=>rfl
 | k+1,h=>by rw[cnt,cnt,a8f fun i hi=>h i (by omega),h k (by omega)]
theorem cnt_le (p:Nat->Bool):∀k,cnt p k<=k
 | 0=>A0f _
 | k+1=>by
  have:=cnt_le p k;rw[cnt];cases p k<;>simp<;>omega
theorem c2k:∀(k n:Nat),n<2^k->pop n=cnt n.testBit k
 | 0,n,h=>by
  have:n=0:=by simpa using h
  subst this;exact a7z
 | k+1,n,h=>by
  rw[b3a,cnt_succ'];have h2:n/2<2^k:=by rw[A2w] at h;omega
  rw[c2k k (n/2) h2]
  have e0:n%2=(n.testBit 0).toNat:=by
   rw[A3g]
   rcases A2e n with e|e<;>rw[e]<;>rfl
  rw[e0]
  congr 1
  exact a8f fun i _=>by rw[A2r]
def bI (b:Bool):Int:=if b then 1 else 0
theorem b5v {a b k:Nat}(h1:a<2^k)(h2:b<2^k):a^^^b<2^k:=A0z h1 h2
theorem or_div2 (a b:Nat):(a|||b)/2=(a/2)|||(b/2):=by
 apply A0p;intro i;rw[A4c,A2r,A2r,A2r,A4c]
theorem xor_div2 (a b:Nat):(a^^^b)/2=(a/2)^^^(b/2):=by
 apply A0p;intro i;rw[A0e,A2r,A2r,A2r,A0e]
theorem c7z (a:Nat):a%2=(a.testBit 0).toNat:=by
 rw[A3g]
 rcases A2e a with e|e<;>rw[e]<;>rfl
theorem or_mod2 (a b:Nat):(a|||b)%2+(a&&&b)%2=a%2+b%2:=by
 rw[c7z,c7z (a&&&b),c7z a,c7z b,A4c,A2f];cases a.testBit 0<;>cases b.testBit 0<;>rfl
theorem xor_mod2 (a b:Nat):(a^^^b)%2+(a&&&b)%2=(a|||b)%2:=by
 rw[c7z,c7z (a&&&b),c7z (a|||b),A4c,A2f,A0e];cases a.testBit 0<;>cases b.testBit 0<;>rfl
theorem c2g:∀a b:Nat,(a|||b)+(a&&&b)=a+b:=by
 intro a
 induction a using A6x with
 | ind a ih=>
  intro b
  by_cases ha:a=0
  ·subst ha;simp
  ·have q:=ih (a/2) (by omega) (b/2);have h1:=or_div2 a b;have h2:=c0z a b;have h3:=or_mod2 a b;rw[<- h1,<- h2] at q;omega
theorem b3r:∀a b:Nat,(a^^^b)+(a&&&b)=a|||b:=by
 intro a
 induction a using A6x with
 | ind a ih=>
  intro b
  by_cases ha:a=0
  ·subst ha;simp
  ·have q:=ih (a/2) (by omega) (b/2);have h1:=or_div2 a b;have h2:=c0z a b;have h4:=xor_div2 a b;have h3:=xor_mod2 a b;rw[<- h1,<- h2,<- h4] at q;omega
theorem pow2_cast (n:Nat):((2:Int)^n)=((2^n:Nat):Int):=by push_cast;rfl
theorem b9c (y:Int){n:Nat}(h:0<n):∃k:Nat,y%(n:Int)=(k:Int)/\k<n:=by
 have h1:=B1m y (show ((n:Int))≠0 by omega);have h2:=A9m y (show (0:Int)<(n:Int) by omega);exact⟨(y%n).toNat,by omega,by omega⟩
end Tw
namespace L2
open PySem PySem.Spec PyProof.Rows
variable {K:A0a}{a b p:Addr}{A:Around}{X:Cx}{env:Env}{o:HO}{H:Hp}{is js:List Int}{xs:List V}{i:Nat}{sc scope:Scope}{s:Shared}{σ:St}{y:Str}{ta te:TE}{g:TG}{tb:TS}{tt:TT}{Q:VK}{w:World}{E:XK}{D:c1z}
theorem scal_ii (a b:Int):scal (.int a) (.int b)=true:=rfl
theorem scal_ss (a b:Str):scal (.str a) (.str b)=true:=rfl
theorem a7m (a b:Nat):A2y (a:Int) (b:Int)=((a&&&b:Nat):Int):=by
 rw[bitAnd_pp (by omega) (by omega)];simp
theorem bitOr_nat (a b:Nat):A8c (a:Int) (b:Int)=((a|||b:Nat):Int):=by
 have h:A8c (a:Int) (b:Int)=a+b-((a&&&b:Nat):Int):=by rw[bitOr_and,a7m]
 have e:=Tw.c2g a b;omega
theorem c2c (a b:Nat):A6c (a:Int) (b:Int)=((a^^^b:Nat):Int):=by
 have h:A6c (a:Int) (b:Int)=((a|||b:Nat):Int)-((a&&&b:Nat):Int):=by
  show A8c _ _-A2y _ _=_;rw[bitOr_nat,a7m]
 have e:=Tw.b3r a b;omega
theorem d3h (x i:Nat):A2y ((x:Int)/2^i) 1=Tw.bI (x.testBit i):=by
 have e:((x:Int)/2^i)=((x/2^i:Nat):Int):=by push_cast;rfl
 have e1:(1:Int)=((1:Nat):Int):=rfl;rw[e,e1,a7m,A3b];rw[Nat.testBit_eq_decide_div_mod_eq];unfold Tw.bI
 rcases A2e (x/2^i) with h|h<;>rw[h]<;>rfl
theorem d0m {n:Nat}(h:0<n):A2y (n:Int) ((n:Int)-1)=((n&&&(n-1):Nat):Int):=by
 have e:((n:Int)-1)=((n-1:Nat):Int):=by omega
 rw[e,a7m]
theorem SqT.upd {K:A0a}{H:Hp}{p a:Addr}{o:HO}{xs:List V}(h:H p=none)(s:SqT K H a xs):SqT K (upd H p o) a xs:=(a0c h o).tup s
theorem a2f.updR {H1:Hp}(s:a2f H H1)(h:H1 p=none):a2f H (upd H1 p o):=s.trans (a0c h o)
theorem upd_get {u:HO}(h:H p=none)(s:H a=some u):upd H p o a=some u:=a0c h o a u s
section
variable {K:A0a}{H:Hp}{Q:VK}{a b:Addr}{i j:Int}{x y:Str}{p q:Bool}
theorem rEq_i:rEq (.int i) (.int j) H Q=Q (.bl (decide (i=j))) H:=by
 unfold rEq;rw[scal_ii];simp only[V.int.injEq,true_and]
theorem rNe_i:rNe (.int i) (.int j) H Q=Q (.bl (!decide (i=j))) H:=by
 unfold rNe;rw[scal_ii];simp only[V.int.injEq,true_and]
theorem rEq_s:rEq (.str x) (.str y) H Q=Q (.bl (decide (x=y))) H:=by
 unfold rEq;rw[scal_ss];simp only[V.str.injEq,true_and]
theorem rNe_s:rNe (.str x) (.str y) H Q=Q (.bl (!decide (x=y))) H:=by
 unfold rNe;rw[scal_ss];simp only[V.str.injEq,true_and]
end
theorem cxOf_K {CX:CXT}{P:Program}{mg:Str->Option Value}{base:Heap}{N:List Str}{qual:Str}{f:Addr}{cd:Value}{outer:List Env}:(cxOf CX P w K mg base N qual scope f cd A outer s H E).K=K:=rfl
theorem cpow_n {i:Int}{n:Nat}(h:n<=1000)(h2:i.natAbs<2^64:=by decide):CPow i (n:Int):=⟨by omega,by omega,h2⟩
theorem b0u (is:List Int):A4k (.tuple (is.map B1x))=true:=by
 simp[A4k,A6e,A7v,PySem.W.ke_canLayAll0,B2m]
theorem a7y {K:A0a}{H:Hp}:∀is:List Int,DVs K H (is.map V.int) (is.map B1x)
 | []=>.nil
 | _::r=>.cons (.int _) (a7y r)
theorem b6p:∀is js:List Int,A4a (is.map B1x) (js.map B1x)=decide (is=js)
 | [],[]=>by simp[A4a]
 | [],_::_=>by simp[A4a]
 | _::_,[]=>by simp[A4a]
 | a::r,b::t=>by
  simp only[A0m,A4a,A2q,b6p r t]
  by_cases h:a=b<;>by_cases h':r=t<;>simp[h,h']
theorem rEqD_ints (ha:SqT K H a (is.map V.int))(hb:SqT K H b (js.map V.int))(q:Q (.bl (decide (is=js))) H):rEqD K (.ref a) (.ref b) H Q:=
 ⟨_,_,.tup ha (a7y is),.tup hb (a7y js),b0u is,b0u js,by rw[A2q,b6p];exact q⟩
theorem rNeD_ints (ha:SqT K H a (is.map V.int))(hb:SqT K H b (js.map V.int))(q:Q (.bl (!decide (is=js))) H):rNeD K (.ref a) (.ref b) H Q:=
 ⟨_,_,.tup ha (a7y is),.tup hb (a7y js),b0u is,b0u js,by rw[A2q,b6p];exact q⟩
section
variable {K:A0a}{H:Hp}{Q:VK}{a b:Addr}{i1 i2 i3 j1 j2 j3:Int}
theorem rEqD_2 (ha:SqT K H a [.int i1,.int i2])(hb:SqT K H b [.int j1,.int j2])(q:Q (.bl (decide ([i1,i2]=[j1,j2]))) H):rEqD K (.ref a) (.ref b) H Q:=rEqD_ints (is:=[i1,i2]) (js:=[j1,j2]) ha hb q
theorem rNeD_2 (ha:SqT K H a [.int i1,.int i2])(hb:SqT K H b [.int j1,.int j2])(q:Q (.bl (!decide ([i1,i2]=[j1,j2]))) H):rNeD K (.ref a) (.ref b) H Q:=rNeD_ints (is:=[i1,i2]) (js:=[j1,j2]) ha hb q
end
section
variable {K:A0a}{H:Hp}{Q:VK}{R:Bool->Hp->Prop}{D:c1z}{σ:St}{t u:TS}{te ta tb:TE}{tt tu:TT}{tA:TA}{g:TG}{gs:TGs}{v w:V}{a b:Addr}{i j:Int}{p q:Bool}{x y:Str}{n m k:Nat}
theorem st_seq (h:t { D with nx:=u D } σ H):tSeq t u D σ H:=h
theorem st_next (h:D.nx σ H):tNext D σ H:=h
theorem st_asg (h:te σ H fun x H1=>g x σ H1 D.nx):tAsg te g D σ H:=h
theorem st_ret (h:te σ H D.rt):tRet te D σ H:=h
theorem st_drop (h:te σ H fun _ H1=>D.nx σ H1):tDrop te D σ H:=h
theorem st_if (h:tt σ H fun b H1=>if b=true then t D σ H1 else u D σ H1):tIfS tt t u D σ H:=h
theorem st_gname {P:St->Hp->Prop}(h:P (σ.set n (some v)) H):gName n v σ H P:=h
theorem st_gtup {P:St->Hp->Prop}(s:SqT K H a xs)(l:xs.length=n)(h:gs xs σ H P):gTup K n gs (.ref a) σ H P:=⟨a,xs,rfl,s,l,h⟩
theorem st_gcons {P:St->Hp->Prop}{r:List V}(h:g v σ H fun σ' H'=>gs r σ' H' P):gCons g gs (v::r) σ H P:=⟨v,r,rfl,h⟩
theorem st_gnil {P:St->Hp->Prop}(h:P σ H):gNil [] σ H P:=⟨rfl,h⟩
theorem st_c (h:Q v H):tC v σ H Q:=h
theorem st_var (e:σ[n]? = some (some v))(h:Q v H):tVar n σ H Q:=⟨v,e,h⟩
theorem st_op {r:R2}(h:ta σ H fun x H1=>tb σ H1 fun y H2=>r x y H2 Q):tOp r ta tb σ H Q:=h
theorem st_un {r:V->Hp->VK->Prop}(h:ta σ H fun x H1=>r x H1 Q):tUn r ta σ H Q:=h
theorem st_test (h:te σ H fun x H'=>∃k,x=.bl k/\R k H'):tTest te σ H R:=h
theorem st_tB (h:te σ H fun x H'=>∃k,x=.bl k/\R k H'):tB te σ H R:=h
theorem st_bl {P:Bool->Prop}(h:P p):∃k,V.bl p=V.bl k/\P k:=⟨p,rfl,h⟩
theorem st_and (h:tt σ H fun c H1=>if c=true then tu σ H1 R else R false H1):tAnd tt tu σ H R:=h
theorem st_or (h:tt σ H fun c H1=>if c=true then R true H1 else tu σ H1 R):tOr tt tu σ H R:=h
theorem st_not (h:tt σ H fun c H1=>R (!c) H1):tNot tt σ H R:=h
theorem st_andV (h:ta σ H fun x H1=>∃c,x=.bl c/\if c=true then tb σ H1 Q else Q (.bl false) H1):tAndV ta tb σ H Q:=h
theorem st_notV (h:ta σ H fun x H1=>∃c,x=.bl c/\Q (.bl (!c)) H1):tNotV ta σ H Q:=h
theorem st_ifE (h:tt σ H fun c H1=>if c=true then ta σ H1 Q else tb σ H1 Q):tIf tt ta tb σ H Q:=h
theorem st_call {sp:Sp}{dvs:List V}(h:tA σ H fun vs H1=>sp (vs++dvs) H1 Q E):tCall sp dvs E tA σ H Q:=h
theorem st_cb {r:List V->Hp->VK->Prop}(h:tA σ H fun vs H1=>r vs H1 Q):tCB r tA σ H Q:=h
theorem st_cons {P:List V->Hp->Prop}(h:te σ H fun x H1=>tA σ H1 fun xs H2=>P (x::xs) H2):d1f te tA σ H P:=h
theorem st_nil {P:List V->Hp->Prop}(h:P [] H):tNil σ H P:=h
theorem st_tup (h:tA σ H fun xs H1=>xs.length<=sizeLine/\∀p,H1 p=none->Q (.ref p) (upd H1 p (.tup xs))):tTup tA σ H Q:=h
theorem st_lst (h:tA σ H fun xs H1=>xs.length<=sizeLine/\∀p,H1 p=none->Q (.ref p) (upd H1 p (.lst xs))):tLst tA σ H Q:=h
theorem st_size {A:Prop}(h:Nat.ble xs.length 1000=true)(q:A):xs.length<=sizeLine/\A:=⟨A4h (a5r (A5n h)),q⟩
theorem st_part {P:Option Int->Hp->Prop}(h:te σ H fun x H1=>∃i,x=.int i/\P (some i) H1):tPart te σ H P:=h
theorem st_int {P:Int->Prop}(h:P i):∃k,V.int i=V.int k/\P k:=⟨i,rfl,h⟩
theorem st_nopart {P:Option Int->Hp->Prop}(h:P none H):tNoPart σ H P:=h
theorem st_sl {r:V->Option Int->Option Int->Hp->VK->Prop}{tl th:TO}(h:te σ H fun x H1=>tl σ H1 fun l H2=>th σ H2 fun u H3=>r x l u H3 Q):tSl r te tl th σ H Q:=h
theorem st_slL {lo hi:Option Int}(s:SqL K H a xs)(h:∀p,H p=none->Q (.ref p) (upd H p (.lst (cutV xs lo hi)))):rSlL K (.ref a) lo hi H Q:=⟨a,xs,rfl,s,h⟩
theorem d1z {g:Int->Int->V}(h:Q (g i j) H):rI0 g (.int i) (.int j) H Q:=⟨i,j,rfl,rfl,h⟩
theorem st_i {C:Int->Int->Prop}{g:Int->Int->V}(c:C i j)(h:Q (g i j) H):rI C g (.int i) (.int j) H Q:=⟨i,j,rfl,rfl,c,h⟩
theorem st_u {g:Int->V}(h:Q (g i) H):rU g (.int i) H Q:=⟨i,rfl,h⟩
theorem st_eqi (h:Q (.bl (decide (i=j))) H):rEq (.int i) (.int j) H Q:=by rw[rEq_i];exact h
theorem st_nei (h:Q (.bl (!decide (i=j))) H):rNe (.int i) (.int j) H Q:=by rw[rNe_i];exact h
theorem st_eqs (h:Q (.bl (decide (x=y))) H):rEq (.str x) (.str y) H Q:=by rw[rEq_s];exact h
theorem st_nes (h:Q (.bl (!decide (x=y))) H):rNe (.str x) (.str y) H Q:=by rw[rNe_s];exact h
theorem st_ixT (s:SqT K H a xs)(e:atI xs i=some v)(h:Q v H):rIxT K (.ref a) (.int i) H Q:=⟨a,xs,i,v,rfl,rfl,s,e,h⟩
theorem c9x (s:SqL K H a xs)(e:atI xs i=some v)(h:Q v H):rIxL K (.ref a) (.int i) H Q:=⟨a,xs,i,v,rfl,rfl,s,e,h⟩
theorem st_andN (h:Q (.int ((n&&&m:Nat):Int)) H):rI0 (fun i j=>.int (A2y i j)) (.int (n:Int)) (.int (m:Int)) H Q:=d1z (by rw[a7m];exact h)
theorem st_orN (h:Q (.int ((n|||m:Nat):Int)) H):rI0 (fun i j=>.int (A8c i j)) (.int (n:Int)) (.int (m:Int)) H Q:=d1z (by rw[bitOr_nat];exact h)
theorem st_xorN (h:Q (.int ((n^^^m:Nat):Int)) H):rI0 (fun i j=>.int (A6c i j)) (.int (n:Int)) (.int (m:Int)) H Q:=d1z (by rw[c2c];exact h)
theorem st_bit (h:Q (.int (Tw.bI (n.testBit k))) H):rI0 (fun i j=>.int (A2y i j)) (.int ((n:Int)/2^k)) (.int 1) H Q:=d1z (by rw[d3h];exact h)
theorem st_shrN (h:Q (.int (i/2^k)) H):rI (fun _ j=>0<=j) (fun i j=>.int (i/2^j.toNat)) (.int i) (.int (k:Int)) H Q:=st_i (by omega) (by rw[A3p];exact h)
theorem st_shl1 (c:k<=1000)(h:Q (.int ((2^k:Nat):Int)) H):rI CPow (fun i j=>.int (i*2^j.toNat)) (.int 1) (.int (k:Int)) H Q:=st_i (cpow_n c) (by rw[A3p,A8q,Tw.pow2_cast];exact h)
theorem st_modN (c:0<n)(h:∀k:Nat,i%(n:Int)=(k:Int)->k<n->Q (.int (k:Int)) H):rI (fun _ j=>0<j) (fun i j=>.int (i%j)) (.int i) (.int (n:Int)) H Q:=st_i (by omega) (by
 obtain⟨k,e,l⟩:=Tw.b9c i c
 rw[e];exact h k e l)
theorem c0t {c:V}{cv t:Value}(ty:b8x K H v t)(e:A3u K t cv=some p)(h:Q (.bl p) H):rIsi K c cv [v,c] H Q:=⟨v,t,p,rfl,ty,e,h⟩
end
theorem b4m {c:Prop} [Decidable c]{A B:Prop}(h1:c->A)(h2:¬c->B):if decide c=true then A else B:=by
 by_cases h:c
 ·rw[decide_eq_true h];exact iteT (h1 h)
 ·rw[decide_eq_false h];exact iteF (h2 h)
theorem iteN {c:Prop} [Decidable c]{A B:Prop}(h1:¬c->A)(h2:c->B):if (!decide c)=true then A else B:=by
 by_cases h:c
 ·rw[decide_eq_true h];exact iteF (h2 h)
 ·rw[decide_eq_false h];exact iteT (h1 h)
theorem pow_pos2 (n:Nat):0<2^n:=Nat.pow_pos (by decide)
theorem for_range0 {n:Nat}(Pv:Nat->St->Hp->Prop)(h0:Pv 0 σ H)
  (hs:∀i σ H,i<n->Pv i σ H->g (.int (i:Int)) σ H fun σ2 H2=>tb { D with nx:=Pv (i+1),ct:=Pv (i+1),bk:=D.nx } σ2 H2) (hd:∀σ H,Pv n σ H->D.nx σ H) :
  ∃W:Nat->Nat->St->Hp->Prop,(∃m,W 0 m σ H)/\∀i m σ H,W i m σ H->
   ((Itr 0 n).stop i H/\D.nx σ H)\/((Itr 0 n).go i H/\∃N:St->Hp->Prop,(∀σ' H',N σ' H'->∃m',m'<m/\W (i+1) m' σ' H')/\∀x H',(Itr 0 n).yld i H x H'->g x σ H' fun σ2 H2=>tb { D with nx:=N,ct:=N,bk:=D.nx } σ2 H2):=
 for_range Pv h0 (fun i σ H hi hp=>by rw[Int.zero_add];exact hs i σ H hi hp) hd
theorem c2v {n:Nat}(hn:n<=1000000)(e:∀P:V->Hp->Prop,P (.int (n:Int)) H->ta σ H P)(Pv:Nat->St->Hp->Prop)(h0:Pv 0 σ H)
  (hs:∀i σ H,i<n->Pv i σ H->g (.int (i:Int)) σ H fun σ2 H2=>tb { D with nx:=Pv (i+1),ct:=Pv (i+1),bk:=D.nx } σ2 H2) (hd:∀σ H,Pv n σ H->D.nx σ H):tFor (iRng1 (d1f ta tNil)) g tb D σ H:=
 e _ ⟨(n:Int),rfl,by omega,by omega,for_range0 Pv h0 hs hd⟩
theorem at_i {cs:List Int}(h:i<cs.length):∃c,atI (cs.map V.int) (i:Int)=some (.int c):=
 ⟨cs[i],c2m (by rw[List.getElem?_map,List.getElem?_eq_getElem h];rfl)⟩
theorem one_mod (c:Int)(d:Int)(hd:0<d)(hd2:d<=1000):∃n:Nat,1+c%d=(n:Int)/\0<n/\(n:Int)<=d:=by
 have h1:=B1m c (show d≠0 by omega);have h2:=A9m c hd;exact⟨(1+c%d).toNat,by omega,by omega,by omega⟩
theorem iteNT {A B:Prop}(h:B):if (!true)=true then A else B:=iteF h
theorem iteNF {A B:Prop}(h:A):if (!false)=true then A else B:=iteT h
def clGo (env:Env):List (Str×NameKind)->List (Str×Addr)->List (Str×Addr)
 | [],acc=>acc
 | (n,k)::r,acc=>if (k==A1z)=true then clGo env r ((n,(env.cells.lookup n).getD 0)::acc) else clGo env r acc
theorem clGo_eq (env:Env):∀(names:List (Str×NameKind)) (acc:List (Str×Addr)),(∀p∈names,p.2=.free->∃c,env.cells.lookup p.1=some c)->
  (forIn names acc fun x r=>match x with
   | (name,kind)=>if (kind==A1z)=true then (do let a <- cellOf env name;pure (A5p ((name,a)::r)):Sem _) else pure (A5p r))=(pure (clGo env names acc):Sem _)
 | [],_,_=>rfl
 | (n,k)::r,acc,h=>by
  rw[List.forIn_cons]
  by_cases hk:k=A1z
  ·subst hk;obtain⟨c,hc⟩:=h (n,.free) A0k rfl;have e:cellOf env n=pure c:=by unfold cellOf;rw[hc]
   simp only[beq_self_eq_true,if_true,e,pure_bind,clGo,hc,A6k];exact clGo_eq env r _ fun p hp=>h p (A0d _ hp)
  ·have hb:(k==A1z)=false:=by simpa using hk
   simp only[hb,A2b,if_false,pure_bind,clGo];exact clGo_eq env r _ fun p hp=>h p (A0d _ hp)
theorem closure_is (h:∀p∈scope.names,p.2=.free->∃c,env.cells.lookup p.1=some c):closureFor scope env=pure (clGo env scope.names []):=by
 unfold closureFor;have e:=clGo_eq env scope.names [] h;dsimp only;rw[e];rfl
theorem b8v (env:Env){y:Str}:∀(names:List (Str×NameKind)) (acc:List (Str×Addr)),(∀p∈names,p.2=.free->∃c,env.cells.lookup p.1=some c)->
  ∀c,(clGo env names acc).lookup y=some c->acc.lookup y=some c\/(env.cells.lookup y=some c)
 | [],_,_,_,e=>.inl e
 | (n,k)::r,acc,h,c,e=>by
  rw[clGo] at e
  by_cases hk:(k==A1z)=true
  ·rw[if_pos hk] at e;have hk':k=A1z:=by simpa using hk
   obtain⟨c',hc'⟩:=h (n,k) A0k hk'
   rcases b8v env r _ (fun p hp=>h p (A0d _ hp)) c e with q|q
   ·rw[A1n] at q
    cases hb:y==n with
    | true=>
     rw[hb] at q;have hb':y=n:=eq_of_beq hb;subst hb';have hc'':env.cells.lookup y=some c':=hc';rw[hc'',A6k] at q;rw[hc''];exact .inr q
    | false=>rw[hb] at q;exact .inl q
   ·exact .inr q
  ·rw[if_neg hk] at e;exact b8v env r _ (fun p hp=>h p (A0d _ hp)) c e
theorem c5z (env:Env){y:Str}:∀(names:List (Str×NameKind)) (acc:List (Str×Addr)),(y,A1z)∈names\/(∃c,acc.lookup y=some c)->∃c,(clGo env names acc).lookup y=some c
 | [],_,h=>h.elim (fun z=>nomatch z) id
 | (n,k)::r,acc,h=>by
  rw[clGo]
  have up:∀v:Addr,(∃c,acc.lookup y=some c)->∃c,((n,v)::acc).lookup y=some c:=fun v ⟨c,e⟩=>by
   rw[A1n]
   cases hb:y==n with
   | true=>exact⟨v,rfl⟩
   | false=>exact⟨c,e⟩
  by_cases hk:(k==A1z)=true
  ·rw[if_pos hk];refine c5z env r _ ?_
   rcases h with h|h
   ·rcases List.mem_cons.mp h with z|z
    ·cases z;exact .inr ⟨(env.cells.lookup y).getD 0,by rw[A1n,beq_self_eq_true]⟩
    ·exact .inl z
   ·exact .inr (up _ h)
  ·rw[if_neg hk];refine c5z env r _ ?_
   rcases h with h|h
   ·rcases List.mem_cons.mp h with z|z
    ·cases z;exact absurd rfl hk
    ·exact .inl z
   ·exact .inr h
def rlb (env:Env)(n:Str)(k:NameKind):NameKind:=if (k==.free&&env.scope.kind==.function&&env.kindOf n==some .cell)=true then .cell else k
theorem b7r (env:Env)(y:Str):∀names:List (Str×NameKind),
  (names.map fun (n,k)=>if (k==A1z&&env.scope.kind==.function&&env.kindOf n==some .cell)=true then (n,B2v) else (n,k)).lookup y=(names.lookup y).map (rlb env y)
 | []=>rfl
 | (n,k)::r=>by
  have e:(if (k==A1z&&env.scope.kind==.function&&env.kindOf n==some .cell)=true then (n,B2v) else (n,k))=(n,rlb env n k):=by
   unfold rlb;split<;>rfl
  rw[A0m];show A3j y ((if (k==A1z&&env.scope.kind==.function&&env.kindOf n==some .cell)=true then (n,B2v) else (n,k))::_)=_;rw[e,A1n,A1n]
  cases hb:y==n with
  | true=>have:=eq_of_beq hb;subst this;rfl
  | false=>exact b7r env y r
theorem b1p (scope:Scope)(env:Env)(y:Str):(relabel scope env).names.lookup y=(scope.names.lookup y).map (rlb env y):=b7r env y scope.names
theorem mem_of_lookup {α β:Type} [BEq α] [LawfulBEq α]{y:α}{k:β}:∀{l:List (α×β)},l.lookup y=some k->(y,k)∈l
 | (n,j)::r,e=>by
  rw[A1n] at e
  cases hb:y==n with
  | true=>rw[hb] at e;have:=eq_of_beq hb;subst this;cases e;exact A0k
  | false=>rw[hb] at e;exact A0d _ (mem_of_lookup e)
structure a6p (sc:Scope)(x:Str)(scope:Scope):Prop where
 kind:scope.kind=.function
 cell:∀y∈scope.names,y.2≠.cell
 own:scope.names.lookup x=some .local
 loc:∀y∈scope.names,y.2=.local->y.1=x\/y.1=(".0":Str)
 nam:∀y∈scope.names,y.2=.local->scope.names.lookup y.1=some .local
 free:∀y∈scope.names,y.2=.free->sc.names.lookup y.1=some .cell\/sc.names.lookup y.1=some .free
 two:∀y∈scope.names,y.2=.free->y.1≠x
def Cx.comp (X:Cx)(M:List Str)(scope:Scope)(x:Str)(C:Addr)(s:Shared)(H:Hp)(ex:List Addr):Cx:=
 { X with N:=x::M,s₀:=s,H₀:=H,env:=compEnvC scope (clGo X.env scope.names []) C X.env,outer:=X.stack,ex:=ex,fn:=fun _=>false,pn:=[],xe:=fun _ _=>False }
section
variable {X:Cx}{M:List Str}{pins:List (Addr×Obj)}{σ:St}{H:Hp}{s:Shared}{scope:Scope}{x:Str}
theorem a6p.has (S:a6p X.env.scope x scope)(ok:X.Ok):∀p∈scope.names,p.2=.free->∃c,X.env.cells.lookup p.1=some c:=fun p hp e=>ok.has p.1 (S.free p hp e)
theorem a6p.cells (S:a6p X.env.scope x scope)(ok:X.Ok){y:Str}{c:Addr}(e:(clGo X.env scope.names []).lookup y=some c):X.env.cells.lookup y=some c:=by
 rcases b8v X.env scope.names [] (S.has ok) c e with z|z
 ·cases z
 ·exact z
theorem a6p.sees (S:a6p X.env.scope x scope)(hy:(relabel scope X.env).names.lookup y≠some .local)(hv:Vis (relabel scope X.env) y):(y,A1z)∈scope.names/\((relabel scope X.env).names.lookup y=some .cell\/(relabel scope X.env).names.lookup y=some .free):=by
 unfold Vis at hv;rw[b1p] at hv ⊢
 cases e:scope.names.lookup y with
 | none=>rw[e] at hv;rcases hv with z|z|z<;>cases z
 | some k=>
  have hm:=mem_of_lookup e;rw[e] at hv
  have hk:k=.free:=by
   by_cases hf:k=.free
   ·exact hf
   ·have hr:rlb X.env y k=k:=by
     unfold rlb;have:(k==A1z)=false:=by simpa using hf
     rw[this];rfl
    rw[A2s,hr] at hv
    rcases hv with z|z|z
    ·rw[b1p,e,A2s,hr] at hy;exact absurd z hy
    ·exact absurd (A0j z) (S.cell _ hm)
    ·exact A0j z
  subst hk;refine⟨hm,?_⟩;rw[A2s];unfold rlb
  split
  ·exact .inl rfl
  ·exact .inr rfl
theorem a6p.ok (S:a6p X.env.scope x scope)(I:Inv X pins σ H s){C:Addr}(hC:s.heap.objs.size<=C){fp:List Addr}(hf:∀b∈fp,FpOk X pins H b)(hl:∀b∈fp,b<s.heap.objs.size):(X.comp M scope x C s H fp).Ok where
 mod:=I.ok.mod
 kind:=S.kind
 glob:=I.ok.glob
 blt:=I.ok.blt
 above:=hC
 inj:=fun y z c e1 e2=>I.ok.inj y z c (S.cells I.ok e1) (S.cells I.ok e2)
 has:=fun y hy=>by
  have hv:Vis (relabel scope X.env) y:=.inr hy
  have hne:(relabel scope X.env).names.lookup y≠some .local:=fun e=>by
   have hy':(relabel scope X.env).names.lookup y=some .cell\/(relabel scope X.env).names.lookup y=some .free:=hy;rw[e] at hy'
   rcases hy' with q|q<;>cases q
  exact c5z X.env scope.names [] (.inl (S.sees hne hv).1)
 cab:=fun _ _ z=>nomatch z
 hd:=I.ok.hd
 frames:=I.ok.frames
 stk:=.inl rfl
 exf:=fun b hb=>⟨fun z=>by
   have h1:=hl b hb;have z':b=C:=z;rw[z'] at h1
   exact Nat.not_le.mpr h1 hC,fun y c e=>(hf b hb).2.2.2.2.1 y c (S.cells I.ok e)⟩
 bs:=I.bs
 bsz:=A0y I.ok.bsz I.sz
 noex:=fun b o e hb=>by
  rcases (hf b hb).2.2.2.1 with z|z
  ·exact I.ok.noex b o e z
  ·have h1:=A0n e;have h2:=I.ok.bsz;exact absurd (A0g (A0g h1 h2) z) (A2v _)
 exfs:=fun b hb z=>by
  rcases List.mem_cons.mp (I.stkSub b z) with q|q
  ·exact(hf b hb).2.1 q
  ·exact(hf b hb).2.2.1 q
 funs:=I.stack
 frf:=I.stkFree
theorem a6p.inv (S:a6p X.env.scope x scope)(hx:x∉M)(h0:(".0":Str)∉M)(hlen:M.length=X.N.length)(hM:∀(j:Nat) y,M[j]? = some y->X.N[j]? = some y\/scope.names.lookup y=none)(I:Inv X pins σ H s){C:Addr}(hC:s.heap.objs.size<=C){fp:List Addr}(hf:∀b∈fp,FpOk X pins H b)(hl:∀b∈fp,b<s.heap.objs.size){h1:Heap}{t1:Nat}
  (old:∀b o,s.heap.get? b=some o->h1.get? b=some o) {m:Str->Option Value} (ns:h1.Ns C m):Inv (X.comp M scope x C s H fp) [] (none::σ) H { s with heap:=h1,toks:=t1 } where
 ok:=S.ok I hC hf hl
 os:=rfl
 bare:=I.bare
 base:=Un.kept old
 loc:=by
  refine⟨m,ns,fun i y v e1 e2 hv=>?_⟩
  cases i with
  | zero=>cases e2
  | succ j=>
   have e1':M[j]? = some y:=by simpa[Cx.comp] using e1
   have e2':σ[j]? = some (some v):=by simpa using e2
   by_cases hy:(relabel scope X.env).names.lookup y=some .local
   ·exfalso;rw[b1p] at hy
    cases e:scope.names.lookup y with
    | none=>rw[e] at hy;cases hy
    | some k=>
     rw[e,A2s] at hy
     have hk:k=.local:=by
      have hy':=A0j hy;unfold rlb at hy'
      split at hy'
      ·cases hy'
      ·exact hy'
     rcases S.loc _ (mem_of_lookup e) hk with z|z
     ·have z':y=x:=z;subst z';exact hx (List.mem_of_getElem? e1')
     ·have z':y=(".0":Str):=z;subst z';exact h0 (List.mem_of_getElem? e1')
   ·obtain⟨hm,hk⟩:=S.sees hy hv;obtain⟨m0,_,hl0⟩:=I.loc;have hx0:Vis X.env.scope y:=.inr (S.free _ hm rfl)
    have e1':X.N[j]? = some y:=by
     rcases hM j y e1' with z|z
     ·exact z
     ·exfalso;unfold Vis at hv;have hv':(relabel scope X.env).names.lookup y=some .local\/(relabel scope X.env).names.lookup y=some .cell\/(relabel scope X.env).names.lookup y=some .free:=hv;rw[b1p,z] at hv'
      rcases hv' with q|q|q<;>cases q
    obtain⟨u,r,l⟩:=hl0 j y v e1' e2' hx0;refine⟨u,r,.inr ⟨hk,?_⟩⟩;obtain⟨c,hc⟩:=c5z X.env scope.names [] (.inl hm);refine⟨c,hc,?_⟩;have hc0:=S.cells I.ok hc
    rcases l with ⟨k0,_⟩|⟨_,c0,e0,q0⟩
    ·rcases S.free _ hm rfl with z|z
     ·have k0':X.env.scope.names.lookup y=some .local:=k0;rw[z] at k0';cases k0'
     ·have k0':X.env.scope.names.lookup y=some .local:=k0;rw[z] at k0';cases k0'
    ·rw[hc0] at e0;cases e0;obtain⟨o,ho,hd⟩:=q0;exact⟨o,old _ _ ho,hd⟩
 cell:=fun y c e=>by
  obtain⟨v,o,ho,hd⟩:=I.cell y c (S.cells I.ok e);exact⟨v,o,old _ _ ho,hd⟩
 free:=I.hok.fresh hC
 freeC:=fun y c e=>I.freeC y c (S.cells I.ok e)
 pin:=fun p hp=>by cases hp
 hok:=I.hok.kept old
 len:=by simp[Cx.comp,I.len,hlen]
end
def PIfs (X:Cx)(ifs:List Expr)(t:TT):Prop:=
 ∀(pins:List (Addr×Obj)) (s:Shared) (σ:St) (H:Hp) (Q:Bool->Hp->Prop),Inv X pins σ H s->t σ H Q->
  wpAny (model X.prog X.w) X.A (forIn ifs true fun c r=>if r=true then do let ok <- isTrue c X.env (eval c X.env);pure (A5p ok) else pure (A5p r)) (TP X pins σ Q) X.xe s
def tYes:TT:=fun _ H Q=>Q true H
theorem a8v :PIfs X [] tYes:=fun _ _ _ H _ I h=>wpAny_tests_nil ⟨H,I,h⟩
theorem d6q {c:Expr}{t:TT}(h:PT X c t):PIfs X [c] t:=fun pins s σ H Q I q=>wpAny_tests_one (h pins s σ H Q I q)
theorem compLoop_any {prog:Program}{R:Result->Shared->Prop}{elt target iter:Expr}{ifs:List Expr}{scope:Scope}{pos:Pos}{it acc:Value}(I:Nat->Shared->Prop)
  (a2q:∀n s,I n s->wpAny (model prog w) A (pyNext it) (fun r s₁=>match r with
   | none=>R (.ok .next) s₁
   | some v=>wpAny (model prog w) A (letOwnedTupleGo target it v) (fun _ s₀=>wpAny (model prog w) A (assign target env v) (fun _ s₂=>
     wpAny (model prog w) A (forIn ifs true fun c r=>if r=true then do let ok <- isTrue c env (eval c env);pure (A5p ok) else pure (A5p r)) (fun ok s₃=>
      if ok=true then wpAny (model prog w) A (eval elt env) (fun x s₄=>
       wpAny (model prog w) A (call (.builtin "list.append") [acc,x]) (fun _ s₅=>∃m,m<n/\I m s₅) (fun _ _=>False) s₄) (fun _ _=>False) s₃
      else ∃m,m<n/\I m s₃) (fun _ _=>False) s₂) (fun _ _=>False) s₀) (fun _ _=>False) s₁) (fun _ _=>False) s)
  (n:Nat) (h:I n s):codeAny (model prog w) A (.compLoop (.ListComp elt [⟨target,iter,ifs,0⟩] scope pos) 0 it acc env) R s:=by
 refine codeAny_loop rfl I (fun n s hI=>?_) n h;show wpAny _ A ((compTurn (.ListComp elt [⟨target,iter,ifs,0⟩] scope pos) 0 it acc env).onRaise (fun x=>do noteFrame x env;theTreesLotGoes x)) _ _ s;refine wpAny_noted ?_;rw[compTurn_list];refine A0b (B0q (A0b (A2m (a2q n s hI) (fun r s₁ h₁=>?_) fun _ _ h'=>h'.elim)))
 cases r with
 | none=>exact A0h h₁
 | some v=>
  refine A0b (A2m h₁ (fun _ s₀ h₀=>?_) fun _ _ h'=>h'.elim);refine A0b (A2m h₀ (fun _ s₂ h₂=>A0b (A2m h₂ (fun ok s₃ h₃=>?_) fun _ _ h'=>h'.elim)) fun _ _ h'=>h'.elim)
  cases ok with
  | false=>exact A0h ⟨rfl,h₃⟩
  | true=>
   exact A0b (A0b (A2m h₃ (fun x s₄ h₄=>A0b (A2m h₄ (fun _ s₅ h₅=>A0h (A0h ⟨rfl,h₅⟩)) fun _ _ h'=>h'.elim)) fun _ _ h'=>h'.elim))
def c4q (wi:TI)(tt:TT)(te:TE):TE:=fun σ H Q=>wi σ H fun J H1=>∃W:Nat->Nat->List V->Hp->Prop,(∃m,W 0 m [] H1)/\∀i m ys H,W i m ys H->
 (J.stop i H/\∀p,H p=none->Q (.ref p) (upd H p (.lst ys)))\/
 (J.go i H/\ys.length<sizeLine/\∃N:List V->Hp->Prop,(∀ys' H',N ys' H'->∃m',m'<m/\W (i+1) m' ys' H')/\
  ∀x H',J.yld i H x H'->tt (some x::σ) H' fun b H2=>if b=true then te (some x::σ) H2 fun y H3=>N (ys++[y]) H3 else N ys H2)
section
variable {X:Cx}{M:List Str}{scope:Scope}{x:Str}{px pos:Pos}{elt iter:Expr}{ifs:List Expr}{wi:TI}{tt:TT}{te:TE}
theorem c8x {use:Option (Value->Sem Unit)}{QQ:Value->Shared->Prop}{pins:List (Addr×Obj)}{cpos:Pos}(hsc:X.env.scope=sc)(S:a6p sc x scope)(hx:x∉M)(h0:(".0":Str)∉M)(hN:M.Nodup)(hlen:M.length=X.N.length)(hM:∀(j:Nat) y,M[j]? = some y->X.N[j]? = some y\/scope.names.lookup y=none)(hc:X.calm=true)(hi:PI X (.Name x px) iter wi)
  (ht:∀C s H ex,PIfs (X.comp M scope x C s H ex) ifs tt) (he:∀C s H ex,PE (X.comp M scope x C s H ex) elt te) (I:Inv X pins σ H s) (h:c4q wi tt te σ H Q)
  (fin:∀(D C:Addr) (s4:Shared) (H4:Hp),C≠X.env.locals->(∀y c,X.env.cells.lookup y=some c->c≠C)->(∀p∈X.pn++pins,p.1≠C)->X.s₀.heap.objs.size<=C->H4 C=none->(∃m,s4.heap.Ns C m)->
   (∀h',A9d C s4.heap h'->Inv X pins σ H4 { s4 with heap:=h' })->Q (.ref D) H4->compPost (model X.prog X.w) X.A X.xe use QQ (.ref D) C (.ok .next) s4)
  (hs:∀v,foldedSetIterable iter X.env v=pure v) :
  wpAny (model X.prog X.w) X.A (comprehension (.ListComp elt [⟨.Name x px,iter,ifs,0⟩] scope pos) scope X.env cpos (newList []) false (eval iter X.env) use) QQ X.xe s:=by
 subst hsc;have hnames:=S.nam;refine wpAny_comprehension_free (use:=use) rfl hs (closure_is (S.has I.ok)) S.kind hnames (thn (hi pins s σ H _ I h) fun v s1 h1=>thn h1 fun itv s2 h2=>?_);obtain⟨it,fp,tn,J,H2,e,I2,T,st2,f2,W,⟨m0,w0⟩,a2q⟩:=h2;subst e;refine A4s (wpAny_newFunctionEnv S.cell (by intro y hy;simp at hy) (fun h₁ hns₁ hsb₁=>?_) S.kind);dsimp only at hns₁ hsb₁ ⊢;generalize hG:s2.heap.push { cls:=.type "list",dict:=none,data:=.seq ([]:List Value).toArray }=G at hns₁ hsb₁ ⊢;have hC:G.objs.size=s2.heap.objs.size+1:=by rw[<- hG,A5e]
 have hDC:s2.heap.objs.size≠G.objs.size:=by omega
 have below:∀b,b<s2.heap.objs.size->b≠G.objs.size/\b≠s2.heap.objs.size:=fun b hb=>⟨by omega,by omega⟩;have old:∀b o,s2.heap.get? b=some o->h₁.get? b=some o:=fun b o e=>hsb₁.extBut b o (below b (A0n e)).1 (Heap.get?_push_of_some _ (hG▸Heap.get?_push_of_some _ e));have hacc:h₁.get? s2.heap.objs.size=some { cls:=.type "list",data:=.seq ([]:List Value).toArray }:=hsb₁.extBut _ _ hDC (Heap.get?_push_of_some _ (hG▸Heap.get?_push_size _ rfl))
 have hlt:∀b∈fp,b<s2.heap.objs.size:=fun b hb=>by
  obtain⟨o,e,_⟩:=T.obj _ _ st2 b hb;exact A0n e
 have ctop:∀y c,(clGo X.env scope.names []).lookup y=some c->c<s2.heap.objs.size:=fun y c e=>by
  obtain⟨v,q⟩:=I2.cell y c (S.cells I2.ok e);exact q.lt
 have hCle:s2.heap.objs.size<=G.objs.size:=by omega
 have IY:∀t1,Inv (X.comp M scope x G.objs.size s2 H2 fp) [] (none::σ) H2 { s2 with heap:=h₁,toks:=t1 }:=fun t1=>S.inv hx h0 hlen hM I2 hCle f2 hlt old hns₁
 have nost:∀b,s2.heap.objs.size<=b->b∉frs X.stack:=fun b hb z=>by
  rcases List.mem_cons.mp (I2.stkSub b z) with q|q
  ·exact Nat.not_le.mpr I2.lt (q▸hb)
  ·exact I2.nofs hb q
 have hD:s2.heap.objs.size∉frs X.stack:=nost _ (A0f _)
 have ptop:∀{pl:List (Addr×Obj)} {H':Hp},(∀b∈fp,H' b=none)->(∀p∈pl,p.1∉fp)->∀b∈fp,FpOk (X.comp M scope x G.objs.size s2 H2 fp) pl H' b:=fun {pl H'} hn hp b hb=>
  ⟨hn b hb,fun z=>(below b (hlt b hb)).1 z,fun z=>(S.ok I2 hCle f2 hlt).exfs b hb z,.inl hb,fun y c e=>(f2 b hb).2.2.2.2.1 y c (S.cells I2.ok e),fun p hp' z=>hp p hp' (z▸hb)⟩
 have Dfp:s2.heap.objs.size∉fp:=fun z=>A2v _ (hlt _ z)
 have loop:∀t1,codeAny (model X.prog X.w) X.A (.compLoop (.ListComp elt [⟨.Name x px,iter,ifs,0⟩] scope pos) 0 (.ref it) (.ref s2.heap.objs.size) (compEnvC scope (clGo X.env scope.names []) G.objs.size X.env))
   (compPost (model X.prog X.w) X.A X.xe use QQ (.ref s2.heap.objs.size) G.objs.size) { s2 with heap:=h₁,toks:=t1 }:=by
  intro t1
  refine compLoop_any (fun n s'=>∃i o H' ys its k,Inv (X.comp M scope x G.objs.size s2 H2 fp) [(s2.heap.objs.size,{ cls:=.type "list",data:=.seq its k })] (o::σ) H' s'/\tn i s'.heap/\(∀b∈fp,H' b=none)/\a5f ys its.toList/\ys.length<=sizeLine/\W i n ys H')
   ?_ m0 ⟨0,none,H2,[],#[],0,?_,T.keep _ _ _ st2 fun b _ o e=>old b o e,fun b hb=>(f2 b hb).1,.nil,A1v _,w0⟩
  ·rintro n s3 ⟨i,o,H3,ys,its,k,I3,st3,fr3,vs3,z3,w3⟩
   have pD:∀p∈[(s2.heap.objs.size,({ cls:=.type "list",data:=.seq its k }:Obj))],p.1∉fp:=fun p hp=>by
    have e:p=_:=List.mem_singleton.mp hp;subst e;exact Dfp
   rcases a2q i n ys H3 w3 with ⟨stop,qn⟩|⟨go,hz,N,hN',step⟩
   ·refine A2m (T.done (X.comp M scope x G.objs.size s2 H2 fp) rfl rfl rfl hc i _ s3 (o::σ) H3 (fun _ _=>False) I3 (ptop fr3 pD) st3 stop) (fun r s4 ⟨hr,I4⟩=>?_) fun _ _ f=>f;subst hr;obtain⟨m4,hn4,_⟩:=I4.loc;obtain⟨eD,nD,_⟩:=I4.pin _ (List.mem_singleton.mpr rfl);have nC:H3 G.objs.size=none:=I4.free;refine fin s2.heap.objs.size G.objs.size s4 (upd H3 s2.heap.objs.size (.lst ys)) (fun z=>Nat.not_le.mpr I2.lt (z▸hCle)) (fun y c e z=>?_) (fun p hp z=>?_) (A0y I2.sz hCle) (by rw[a0q (A1e hDC)];exact nC) ⟨m4,hn4⟩ (fun h' hs'=>?_) (qn _ nD)
    ·obtain⟨v,q⟩:=I2.cell y c e;exact Nat.not_le.mpr q.lt (z▸hCle)
    ·exact Nat.not_le.mpr (A0n (I2.pin p hp).1) (z▸hCle)
    have eD':h'.get? s2.heap.objs.size=some { cls:=.type "list",data:=.seq its k }:=hs'.extBut _ _ hDC eD;have stp:∀b o,s2.heap.get? b=some o->b≠G.objs.size/\b≠s2.heap.objs.size:=fun b o e=>below b (A0n e)
    have un:Un (frs X.stack) fp H2 (upd H3 s2.heap.objs.size (.lst ys)) s2.heap h':=by
     have B:=I4.base;refine⟨fun b o e n1 n2 n3=>hs'.extBut _ _ (stp b o e).1 (B.keep b o e n1 n2 n3),fun b o e n1 n2 n3=>?_,fun b o e n1 n3=>?_,fun b o e n3=>?_,fun b xs e=>?_,fun b o u e=>?_,fun b ps e=>?_⟩
     ·obtain⟨sl,q⟩:=B.slot b o e n1 n2 n3;exact⟨sl,hs'.extBut _ _ (stp b o e).1 q⟩
     ·rw[a0q (stp b o e).2];exact B.free b o e n1 n3
     ·obtain⟨o',q⟩:=B.there b o e n3;exact⟨o',hs'.extBut _ _ (stp b o e).1 q⟩
     ·have q:=B.tups b xs e;rw[a0q (a0p q nD)];exact q
     ·have q:=B.frzs b o u e;rw[a0q (a0p q nD)];exact q
     ·obtain⟨more,q⟩:=B.tbls b ps e;exact⟨more,by rw[a0q (a0p q nD)];exact q⟩
    have hok:HOk X.prog X.w (upd H3 s2.heap.objs.size (.lst ys)) h':=fun b u e=>by
     by_cases hb:b=s2.heap.objs.size
     ·subst hb;rw[a0b] at e;cases e;exact⟨z3,its.toList,k,vs3,by simpa using eD'⟩
     ·rw[a0q hb] at e;refine(I4.hok b u e).stay (fun c v hc' q=>hs'.extBut _ _ (fun z=>?_) q) (fun c q=>by rw[a0q (a0p q nD)];exact q) fun c xs q=>by rw[a0q (a0p q nD)];exact q
      rcases hc' with r|r
      ·rw[r] at z;rw[z,nC] at e;cases e
      ·rw[z,nC] at r;cases r
    refine I2.call' (s':={ s4 with heap:=h' }) I4.os un hok I4.bare (fun b hb=>?_);obtain⟨f0,f1,f2',f3,f4,f5⟩:=f2 b hb;exact⟨f3,f1,f4,f5⟩
   ·refine A2m (T.item (X.comp M scope x G.objs.size s2 H2 fp) rfl rfl rfl hc i _ s3 (o::σ) H3 (fun _ _=>False) I3 (ptop fr3 pD) st3 go) (fun r s4 ⟨u,hr,h4⟩=>?_) fun _ _ f=>f;subst hr;refine A2m h4 (fun _ s5 ⟨v5,H5,I5,r5,y5,st5,fr5⟩=>?_) fun _ _ f=>f;have I5':=I5.pinned (ptop fr5 pD) (T.obj _ _ st5);have hnd:(X.comp M scope x G.objs.size s2 H2 fp).N.Nodup:=List.nodup_cons.mpr ⟨hx,hN⟩;have hloc:(relabel scope X.env).names.lookup x=some .local:=lookup_relabel_local S.own;refine A2m (a2a (X:=X.comp M scope x G.objs.size s2 H2 fp) (i:=0) (pos:=px) hnd rfl (.inl hloc) (.inr hloc) _ s5 (o::σ) H5 v5 u (fun σ6 H6=>σ6=some v5::σ/\H6=H5) I5' r5 ⟨rfl,rfl⟩) (fun _ s6 ⟨σ6,H6,I6,e6,e6'⟩=>?_) fun _ _ f=>f;subst e6 e6'
    have later:∀{σ7:St} {H7:Hp} {s7:Shared},Inv (X.comp M scope x G.objs.size s2 H2 fp) ([(s2.heap.objs.size,{ cls:=.type "list",data:=.seq its k })]++pinsAt fp s5.heap) σ7 H7 s7->tn (i+1) s7.heap/\(∀b∈fp,H7 b=none):=fun {σ7 H7 s7} I7=>
     ⟨T.keep _ _ _ st5 fun b hb o e=>(I7.pin (b,o) (A2a _ (A2a _ (b6h hb e)))).1,fun b hb=>by
      obtain⟨o,e,d⟩:=T.obj _ _ st5 b hb
      exact(I7.pin (b,o) (A2a _ (A2a _ (b6h hb e)))).2.1⟩
    refine A2m (ht _ _ _ _ _ s6 (some v5::σ) H6 _ I6 (step v5 H6 y5)) (fun ok s7 ⟨H7,I7,q7⟩=>?_) fun _ _ f=>f
    cases ok with
    | false=>
     obtain⟨m',hm,w7⟩:=hN' _ _ q7;exact⟨m',hm,i+1,some v5,H7,ys,its,k,I7.unpinned,(later I7).1,(later I7).2,vs3,z3,w7⟩
    | true=>
     refine A2m (he _ _ _ _ _ s7 (some v5::σ) H7 _ I7 q7) (fun uy s8 ⟨y8,H8,I8,r8,q8⟩=>?_) fun _ _ f=>f;obtain⟨m',hm,w8⟩:=hN' _ _ q8;obtain⟨eD,nD,_⟩:=I8.pin (s2.heap.objs.size,{ cls:=.type "list",data:=.seq its k }) (A2a _ (A6a _ (List.mem_singleton.mpr rfl)))
     have hsz:its.size<=sizeLine:=by
      have:=vs3.length;have e2:its.toList.length=its.size:=by simp
      omega
     refine wpAny_list_append_plain (hsz:=hsz) ⟨k,eD⟩ fun h9 pl9 sb9=>?_;obtain⟨k9,e9⟩:=pl9;obtain⟨st8,fr8⟩:=later I8;have I8':Inv (X.comp M scope x G.objs.size s2 H2 fp) [] (some v5::σ) H8 s8:=I8.pins_of fun p hp=>nomatch hp
     have I9:Inv (X.comp M scope x G.objs.size s2 H2 fp) [] (some v5::σ) H8 { s8 with heap:=h9 }:=
      I8'.turned (t':=s8.toks) (fun b o hb e=>sb9.extBut b o hb e) nD hDC (.inr (A0f _)) (fun y c e z=>by have:=ctop y c e;rw[z] at this;exact A2v _ this) fun p hp=>nomatch hp
     refine⟨m',hm,i+1,some v5,H8,ys++[y8],its.push uy,k9,I9.pins_of fun p hp=>?_,T.keep _ _ _ st8 fun b hb o e=>sb9.extBut b o (fun z=>Dfp (z▸hb)) e,fr8,?_,?_,w8⟩
     ·have e:p=_:=List.mem_singleton.mp hp;subst e;exact⟨e9,nD,hDC,hD,fun v z=>by cases z⟩
     ·rw[Array.toList_push];exact vs3.append (.cons r8 .nil)
     ·rw[A0s,A7t];omega
  ·refine(IY t1).pins_of fun p hp=>?_;have e:p=_:=List.mem_singleton.mp hp;subst e;exact⟨hacc,I2.hok.fresh (A0f _),hDC,hD,fun v z=>by cases z⟩
 exact codeAny_compStart_list (loop _) (T.self _ 0 _ _ _ (T.keep _ _ _ st2 fun b _ o e=>old b o e) (loop _))
theorem a8q (hsc:X.env.scope=sc)(S:a6p sc x scope)(hx:x∉X.N)(h0:(".0":Str)∉X.N)(hN:X.N.Nodup)(hc:X.calm=true)(hi:PI X (.Name x px) iter wi)
  (ht:∀C s H ex,PIfs (X.comp X.N scope x C s H ex) ifs tt) (he:∀C s H ex,PE (X.comp X.N scope x C s H ex) elt te) (hs:∀v,foldedSetIterable iter X.env v=pure v:=by intro _;rfl) :
  PE X (.ListComp elt [⟨.Name x px,iter,ifs,0⟩] scope pos) (c4q wi tt te):=by
 intro pins s σ H Q I h;rw[eval_ListComp];exact c8x (use:=none) (M:=X.N) hsc S hx h0 hN rfl (fun _ _ e=>.inl e) hc hi ht he I h (fun D C s4 H4 _ _ _ _ _ hn inv q=>let ⟨m,hn⟩:=hn;⟨m,hn,fun h' hs'=>⟨.ref D,H4,inv h' hs',rfl,q⟩⟩) hs
theorem zip_or {scope:Scope}:∀{M N:List Str},(M.zip N).all (fun p=>p.1==p.2||(scope.names.lookup p.1).isNone)=true->M.length=N.length->∀(j:Nat) y,M[j]? = some y->N[j]? = some y\/scope.names.lookup y=none
 | [],_,_,_,j,y,e=>by simp at e
 | _::_,[],_,hl,_,_,_=>by cases hl
 | m::M,n::N,h,hl,0,y,e=>by
  have e':m=y:=A0j e;subst e';rw[List.zip_cons_cons,A8e,A3y,Bool.or_eq_true] at h
  rcases h.1 with z|z
  ·exact .inl (by rw[show n=m from (eq_of_beq z).symm];rfl)
  ·exact .inr (Option.isNone_iff_eq_none.mp z)
 | m::M,n::N,h,hl,j+1,y,e=>by
  rw[List.zip_cons_cons,A8e,A3y] at h;exact zip_or h.2 (A9n hl) j y e
theorem ps_setC {py spos:Pos}(hi':X.N[i]? = some y)(hy:Loc X.env.scope y)(hsc:X.env.scope=sc)(S:a6p sc x scope)(hx:x∉X.N)(h0:(".0":Str)∉X.N)(hN:X.N.Nodup)(hc:X.calm=true)(hi:PI X (.Name x px) iter wi)
  (ht:∀C s H ex,PIfs (X.comp X.N scope x C s H ex) ifs tt) (he:∀C s H ex,PE (X.comp X.N scope x C s H ex) elt te) (hs:∀v,foldedSetIterable iter X.env v=pure v:=by intro _;rfl)
  (hsw:swapsWith (.ListComp elt [⟨.Name x px,iter,ifs,0⟩] scope pos) (some (.Name y py)) spos.line X.env=pure true:=by rfl)
  (hf:X.fn y=true\/X.env.scope.names.lookup y=some .local:=by first|exact .inl rfl|exact .inr rfl|assumption) :
  PS X (.Assign [.Name y py] (.ListComp elt [⟨.Name x px,iter,ifs,0⟩] scope pos) spos) (tAsg (c4q wi tt te) (gName i)):=by
 intro pins s σ H D I h;rw[exec_Assign_Name_used _ _ _ _ hsw];refine A0b (B0q (A0b ?_));show wpAny _ X.A (do let _ <- comprehension (.ListComp elt [⟨.Name x px,iter,ifs,0⟩] scope pos) scope X.env _ (newList []) false (eval iter X.env) (some (assign (.Name y py) X.env))) _ _ s;refine A0b (A2m (c8x (use:=some (assign (.Name y py) X.env)) (QQ:=fun _ s'=>SP X pins D .next s') (M:=X.N) hsc S hx h0 hN rfl (fun _ _ e=>.inl e) hc hi ht he I h (fun D' C s4 H4 c1 c2 c3 c4 c5 hn inv q=>?_) hs) (fun _ s' hq=>A0h (A0h hq)) fun _ _ e=>e);obtain⟨m,hn⟩:=hn;show wpAny _ X.A (assign (.Name y py) X.env (.ref D')) _ _ s4;refine B0b (c7g (v:=.ref D') (inv s4.heap (.refl ..)) hN hi' hy rfl (fun s5 I5 ⟨a,sb,ha⟩=>?_) hf)
 have hCa:C≠a:=by
  rcases ha with r|r
  ·rw[r];exact c1
  ·exact fun z=>c2 _ _ r z.symm
 exact⟨m,hn.sameBut sb hCa,fun h' hs'=>⟨_,H4,I5.turned (t':=s5.toks) (fun b o hb e=>hs'.extBut b o hb e) c5 c1 (.inr c4) c2 c3,q⟩⟩
end
theorem comp_range {n:Nat}(Pv:Nat->List V->Hp->Prop)(hn:n<=1000)(h0:Pv 0 [] H)(hl:∀i ys H,Pv i ys H->ys.length<=i)
  (hs:∀i ys H,i<n->Pv i ys H->tt (some (.int (i:Int))::σ) H fun b H2=>if b=true then te (some (.int (i:Int))::σ) H2 fun y H3=>Pv (i+1) (ys++[y]) H3 else Pv (i+1) ys H2)
  (hd:∀ys H,Pv n ys H->∀p,H p=none->Q (.ref p) (upd H p (.lst ys))) :
  ∃W:Nat->Nat->List V->Hp->Prop,(∃m,W 0 m [] H)/\∀i m ys H,W i m ys H->((Itr 0 n).stop i H/\∀p,H p=none->Q (.ref p) (upd H p (.lst ys)))\/
   ((Itr 0 n).go i H/\ys.length<sizeLine/\∃N:List V->Hp->Prop,(∀ys' H',N ys' H'->∃m',m'<m/\W (i+1) m' ys' H')/\
    ∀x H',(Itr 0 n).yld i H x H'->tt (some x::σ) H' fun b H2=>if b=true then te (some x::σ) H2 fun y H3=>N (ys++[y]) H3 else N ys H2):=by
 refine⟨fun i m ys H=>m=n-i/\i<=n/\Pv i ys H,⟨n,by simp,A1v _,h0⟩,?_⟩;rintro i m ys H ⟨rfl,hi,p⟩
 by_cases hlt:i<n
 ·refine .inr ⟨hlt,a5r (by have:=hl i ys H p;omega),Pv (i+1),fun ys' H' p'=>⟨n-(i+1),by omega,rfl,hlt,p'⟩,fun x H' y=>?_⟩;obtain⟨e,y⟩:=y;subst e y;rw[Int.zero_add];exact hs i ys _ hlt p
 ·have e:i=n:=by omega
  subst e;exact .inl ⟨A0f _,hd ys H p⟩
theorem b3v {n:Nat}(hn:n<=1000)(e:∀P:V->Hp->Prop,P (.int (n:Int)) H->ta σ H P)(Pv:Nat->List V->Hp->Prop)(h0:Pv 0 [] H)(hl:∀i ys H,Pv i ys H->ys.length<=i)
  (hs:∀i ys H,i<n->Pv i ys H->tt (some (.int (i:Int))::σ) H fun b H2=>if b=true then te (some (.int (i:Int))::σ) H2 fun y H3=>Pv (i+1) (ys++[y]) H3 else Pv (i+1) ys H2)
  (hd:∀ys H,Pv n ys H->∀p,H p=none->Q (.ref p) (upd H p (.lst ys))):c4q (iRng1 (d1f ta tNil)) tt te σ H Q:=
 e _ ⟨(n:Int),rfl,by omega,by omega,comp_range Pv hn h0 hl hs hd⟩
theorem comp_tup (Pv:Nat->List V->Hp->Prop)(hn:xs.length<=1000)(h0:Pv 0 [] H)(hl:∀i ys H,Pv i ys H->ys.length<=i)(hk:∀i ys H,Pv i ys H->SqT K H a xs)
  (hs:∀i x ys H,xs[i]? = some x->Pv i ys H->tt (some x::σ) H fun b H2=>if b=true then te (some x::σ) H2 fun y H3=>Pv (i+1) (ys++[y]) H3 else Pv (i+1) ys H2)
  (hd:∀ys H,Pv xs.length ys H->∀p,H p=none->Q (.ref p) (upd H p (.lst ys))) :
  ∃W:Nat->Nat->List V->Hp->Prop,(∃m,W 0 m [] H)/\∀i m ys H,W i m ys H->((Itt K a).stop i H/\∀p,H p=none->Q (.ref p) (upd H p (.lst ys)))\/
   ((Itt K a).go i H/\ys.length<sizeLine/\∃N:List V->Hp->Prop,(∀ys' H',N ys' H'->∃m',m'<m/\W (i+1) m' ys' H')/\
    ∀x H',(Itt K a).yld i H x H'->tt (some x::σ) H' fun b H2=>if b=true then te (some x::σ) H2 fun y H3=>N (ys++[y]) H3 else N ys H2):=by
 refine⟨fun i m ys H=>m=xs.length-i/\i<=xs.length/\Pv i ys H,⟨xs.length,by simp,A1v _,h0⟩,?_⟩;rintro i m ys H ⟨rfl,hi,p⟩
 by_cases hlt:i<xs.length
 ·refine .inr ⟨⟨xs,xs[i],hk i ys H p,by simp[hlt]⟩,a5r (by have:=hl i ys H p;omega),Pv (i+1),fun ys' H' p'=>⟨xs.length-(i+1),by omega,rfl,hlt,p'⟩,fun x H' y=>?_⟩;obtain⟨e,y⟩:=y;subst e;exact hs i x ys _ (y xs (hk i ys _ p)) p
 ·have e:i=xs.length:=by omega
  subst e;exact .inl ⟨⟨xs,hk _ ys H p,A0f _⟩,hd ys H p⟩
def rBitLen:V->List V->Hp->VK->Prop:=fun x vs H Q=>∃i,x=.int i/\vs=[]/\Q (.int (A1p i:Nat)) H
theorem b9p :MtR X "int.bit_length" rBitLen:=by
 intro pins s σ H x xs v us Q I rx rs h;obtain⟨i,rfl,rfl,q⟩:=h;obtain⟨t,rfl⟩:=rx;cases rs;exact call_int_bit_length ⟨.int _,H,I.tok _,⟨_,rfl⟩,q⟩
end L2
namespace Tw
def plc (n:Nat):Nat->List Nat
 | 0=>[]
 | k+1=>if n.testBit k then plc n k++[k] else plc n k
theorem d7a (n:Nat):∀k,(plc n k).length=cnt n.testBit k
 | 0=>rfl
 | k+1=>by
  rw[plc,cnt];cases h:n.testBit k
  ·simp[d7a n k]
  ·simp[d7a n k]
theorem plc_lt (n:Nat):∀k,∀x∈plc n k,x<k
 | 0,x,h=>by simp[plc] at h
 | k+1,x,h=>by
  rw[plc] at h;cases e:n.testBit k
  ·rw[e] at h;have:=plc_lt n k x (by simpa using h);omega
  ·rw[e] at h;have h':x∈plc n k\/x=k:=by simpa using h
   rcases h' with z|z
   ·have:=plc_lt n k x z;omega
   ·omega
theorem d5u {α:Type}{xs:List α}{i:Nat}{x:α}(h:xs[i]? = some x):xs.take (i+1)=xs.take i++[x]:=by
 rw[B0h,h];rfl
end Tw
namespace L2
open PySem PySem.Spec PyProof.Rows
variable {K:A0a}{tl:TE}
def rLen (K:A0a):List V->Hp->VK->Prop:=fun xs H Q=>(∃p ys,xs=[.ref p]/\(SqL K H p ys\/SqT K H p ys)/\Q (.int (ys.length:Nat)) H)\/∃z,xs=[.str z]/\z.length<=sizeLine/\Q (.int (z.length:Nat)) H
theorem a9v {X:Cx}:b3k X (.builtin "len") (rLen X.K):=call_len_seq.or call_len_str
section
variable {K:A0a}{H:Hp}{Q:VK}{D:c1z}{σ:St}{te:TE}{tA:TA}{g:TG}{tb:TS}{v w y:V}{a b l:Addr}{i j:Int}{xs ys zs:List V}{n:Nat}{T:String}{r:V->List V->Hp->VK->Prop}
theorem b0d (e:∀P:V->Hp->Prop,P (.ref a) H->tl σ H P)(s:SqL K H a xs)(Pv:Nat->St->Hp->Prop)(h0:Pv 0 σ H)(hl:∀i σ H,i<=xs.length->Pv i σ H->SqL K H a xs)
  (hs:∀i x σ H,xs[i]? = some x->Pv i σ H->g x σ H fun σ2 H2=>tb { D with nx:=Pv (i+1),ct:=Pv (i+1),bk:=D.nx } σ2 H2) (hd:∀σ H,Pv xs.length σ H->D.nx σ H):tFor (iList K tl) g tb D σ H:=
 e _ ⟨a,rfl,⟨xs,s⟩,for_list Pv h0 hl hs hd⟩
def sForL (K:A0a)(g:TG)(tb:TS)(D:c1z)(σ:St):V->Hp->Prop:=fun x H=>∃a,x=.ref a/\(∃xs,SqL K H a xs)/\∃W:Nat->Nat->St->Hp->Prop,(∃m,W 0 m σ H)/\∀i m σ H,W i m σ H->
 ((Itl K a).stop i H/\D.nx σ H)\/((Itl K a).go i H/\∃N:St->Hp->Prop,(∀σ' H',N σ' H'->∃m',m'<m/\W (i+1) m' σ' H')/\∀x H',(Itl K a).yld i H x H'->g x σ H' fun σ2 H2=>tb { D with nx:=N,ct:=N,bk:=D.nx } σ2 H2)
theorem st_forE (h:tl σ H (sForL K g tb D σ)):tFor (iList K tl) g tb D σ H:=h
theorem st_forAt (s:SqL K H a xs)(Pv:Nat->St->Hp->Prop)(h0:Pv 0 σ H)(hl:∀i σ H,i<=xs.length->Pv i σ H->SqL K H a xs)
  (hs:∀i x σ H,xs[i]? = some x->Pv i σ H->g x σ H fun σ2 H2=>tb { D with nx:=Pv (i+1),ct:=Pv (i+1),bk:=D.nx } σ2 H2) (hd:∀σ H,Pv xs.length σ H->D.nx σ H):sForL K g tb D σ (.ref a) H:=
 ⟨a,rfl,⟨xs,s⟩,for_list Pv h0 hl hs hd⟩
theorem st_cat (h1:H l=some (.lst xs))(h2:H b=some (.lst zs))(hz:xs.length+zs.length<=1000)(q:∀p,H p=none->Q (.ref p) (upd H p (.lst (xs++zs)))):rCat (.ref l) (.ref b) H Q:=
 ⟨l,b,xs,zs,rfl,rfl,h1,h2,A4h (a5r hz),q⟩
theorem st_bm0 (h:te σ H fun x H1=>tyV K T x H1/\r x [] H1 Q):tBM0 K T r te σ H Q:=h
theorem st_bm (h:te σ H fun x H1=>tyV K T x H1/\tA σ H1 fun xs H2=>r x xs H2 Q):tBM K T r te tA σ H Q:=h
theorem st_tyI {P:Prop}(h:P):tyV K "int" (.int i) H/\P:=⟨rfl,h⟩
theorem st_tyL {P:Prop}(s:SqL K H a xs)(h:P):tyV K "list" (.ref a) H/\P:=⟨.inl ⟨rfl,xs,s⟩,h⟩
theorem st_bitlen (h:Q (.int (A1p i:Nat)) H):rBitLen (.int i) [] H Q:=⟨i,rfl,rfl,h⟩
theorem st_append (h:H l=some (.lst xs))(hz:xs.length<=1000)(q:Q .non (upd H l (.lst (xs++[y])))):rAppend (.ref l) [y] H Q:=⟨l,xs,y,rfl,rfl,h,a5r hz,q⟩
theorem st_lenL (s:SqL K H a xs)(h:Q (.int (xs.length:Nat)) H):rLen K [.ref a] H Q:=.inl ⟨a,xs,rfl,.inl s,h⟩
theorem st_lenT (s:SqT K H a xs)(h:Q (.int (xs.length:Nat)) H):rLen K [.ref a] H Q:=.inl ⟨a,xs,rfl,.inr s,h⟩
end
theorem d0g :A3u K (.type "int") (.type "int")=some true:=by kernel_rfl
theorem c3c :A3u K (.type "int") (.type "bool")=some false:=by kernel_rfl
theorem kit_str_str :A3u K (.type "str") (.type "str")=some true:=by kernel_rfl
theorem a3y :A3u K (.type "tuple") (.type "tuple")=some true:=by kernel_rfl
theorem bits_lt (n:Nat):n<2^(A1p (n:Int)):=by
 unfold A1p
 by_cases h:n=0
 ·subst h;decide
 ·have e:((n:Int)==0)=false:=by
   rw[beq_eq_false_iff_ne];omega
  rw[e];simp only[A2b,if_false,A9p];exact Nat.lt_log2_self
theorem bits_le {n k:Nat}(h:n<2^k):A1p (n:Int)<=k:=by
 unfold A1p
 by_cases hn:n=0
 ·subst hn;simp
 ·have e:((n:Int)==0)=false:=by
   rw[beq_eq_false_iff_ne];omega
  rw[e];simp only[A2b,if_false,A9p];exact(Nat.log2_lt hn).mpr h
end L2
namespace Tw
open PySem PySem.Spec PyProof.Rows L2
end Tw
namespace L2
open PySem PySem.Spec PyProof.Rows
abbrev bmVE:List Value:=[.type "ValueError",.type "Exception",.type "BaseException",.type "object"]
structure ExcK (K:A0a)(C:Addr):Prop where
 exc:PySem.W.excIn K C bmVE "ValueError.__new__" = true
 ga:A2h K (.ref C) "__getattribute__" = some (some (.builtin "BaseException.__getattribute__"))
 gt:A2h K (.ref C) "__getattr__" = some none
 ca:A2h K (.ref C) "__class__" = some (some (.builtin "object.__class__"))
 cg:A5v K (.builtin "object.__class__") "__get__" = some (some (.builtin "getset_descriptor.__get__"))
 tk:PySem.W.takesIn K (.builtin "object.__class__")=some true
 mo:B2s K C (.type "object")=some true
 mb:B2s K C (.type "BaseException")=some true
section
variable {P:Program}{w:World}{X:Cx}{pins:List (Addr×Obj)}{σ:St}{H H':Hp}{s s':Shared}{E:XK}{ea:Addr}{cls:Value}{B:Heap}{outer:List Env}
end
section
variable {X:Cx}{x:Str}{C:Addr}{E:XK}{np cpos pos:Pos}{e:Expr}{es:List Expr}{t:TA}
end
section
variable {X:Cx}{k j:Nat}{ps:List Str}{sp:Sp}{x:Str}{p pos:Pos}{e:Expr}{es:List Expr}{t:TA}
end
def Cx.suite (X:Cx)(ea:Addr):Cx:={ X with A:=X.A.mark (some (.ref ea)),calm:=false,xe:=fun _ _=>False }
section
variable {X:Cx}{pins:List (Addr×Obj)}{σ:St}{H:Hp}{s:Shared}
end
section
variable {X:Cx}{st b₀:Stmt}{suite:List Stmt}{W:Addr}{i:Nat}{y n:Str}{np hpos pos:Pos}{t:XK->TS}{ts:TS}
end
end L2
namespace L2
open PySem PySem.Spec PyProof.Rows PySem.Builtin PySem.Builtin.ObjectAttr PySem.Builtin.Getset_descriptor
section
variable {prog:Program}{w:World}{A:Around}{E:Value->Shared->Prop}{s:Shared}{K:A0a}{a C:Addr}
end
section
variable {X:Cx}
end
end L2
namespace Tw
theorem cnt_xor2 (p q:Nat->Bool):∀k,(cnt (fun i=>p i ^^ q i) k)%2=(cnt p k+cnt q k)%2
 | 0=>rfl
 | k+1=>by
  have h:=cnt_xor2 p q k;rw[cnt,cnt,cnt];cases p k<;>cases q k<;>simp<;>omega
theorem big2 (a b:Nat):∃k,a<2^k/\b<2^k:=⟨a+b,by
  have:=@Nat.lt_two_pow_self (a+b);omega,by
  have:=@Nat.lt_two_pow_self (a+b);omega⟩
theorem a9f (a b:Nat):pop (a^^^b)%2=(pop a+pop b)%2:=by
 obtain⟨k,ha,hb⟩:=big2 a b;rw[c2k k _ (b5v ha hb),c2k k _ ha,c2k k _ hb,<- cnt_xor2]
 congr 1
 exact a8f fun i _=>by rw[A0e]
theorem a6j (a b c:Nat):a&&&(b^^^c)=(a&&&b)^^^(a&&&c):=by
 apply A0p;intro i;simp only[A2f,A0e];cases a.testBit i<;>cases b.testBit i<;>cases c.testBit i<;>rfl
theorem a6z (a b c:Nat):(a^^^b)&&&c=(a&&&c)^^^(b&&&c):=by
 rw[A0v,a6j,A0v c a,A0v c b]
theorem pop_both (x1 z1 x2 z2:Nat):pop ((x1^^^x2)&&&(z1^^^z2))%2=(pop (x1&&&z1)+pop (x2&&&z2)+pop ((x1&&&z2)^^^(z1&&&x2)))%2:=by
 have e:(x1^^^x2)&&&(z1^^^z2)=((x1&&&z1)^^^(x1&&&z2))^^^((x2&&&z1)^^^(x2&&&z2)):=by
  rw[a6z,a6j,a6j]
 have h1:=a9f ((x1&&&z1)^^^(x1&&&z2)) ((x2&&&z1)^^^(x2&&&z2));have h2:=a9f (x1&&&z1) (x1&&&z2);have h3:=a9f (x2&&&z1) (x2&&&z2);have h4:=a9f (x1&&&z2) (z1&&&x2);rw[A0v z1 x2] at h4 ⊢;rw[e];omega
theorem d4p (z1 z2 x1 b:Nat):(pop (x1&&&z2)+pop ((z1^^^z2)&&&b))%2=(pop (z1&&&b)+pop (z2&&&(b^^^x1)))%2:=by
 have h1:=a9f (z1&&&b) (z2&&&b);have h2:=a9f (z2&&&b) (z2&&&x1);rw[<- a6z] at h1;rw[<- a6j] at h2;rw[A0v x1 z2];omega
theorem quart_even {p1 p2 p3 c:Nat}{m:Int}(h:p3%2=(p1+p2+c)%2)(hc:c%2=0):(2*m+(p1:Int)+(p2:Int)-(p3:Int))%2=0:=by omega
theorem quart_half {q:Int}(h:q%2=0):0<=q%4/2/\q%4/2<=1/\(2*(q%4/2)-q)%4=0:=by omega
theorem d3b (b:Bool):bI b=((b.toNat:Nat):Int):=by cases b<;>rfl
end Tw
namespace L2
open PySem PySem.Spec PyProof.Rows
variable {H:Hp}{elts:List Expr}{kk:Nat}{tpos:Pos}{P:Program}{σ:St}{tl:TE}{w:World}
section
variable {K:A0a}{H:Hp}{Q:VK}{σ:St}{ta tb tc:TE}{r r':R2}{n k:Nat}{i:Int}{p q:Bool}{a:Addr}
theorem st_and1 (h:Q (.int (Tw.bI (n.testBit 0))) H):rI0 (fun i j=>.int (A2y i j)) (.int (n:Int)) (.int 1) H Q:=d1z (by
 have e:=d3h n 0;rw[Int.pow_zero,Int.ediv_one] at e
 rw[e];exact h)
theorem st_andB (h:Q (.int (Tw.bI (p&&q))) H):rI0 (fun i j=>.int (A2y i j)) (.int (Tw.bI p)) (.int (Tw.bI q)) H Q:=d1z (by
 rw[Tw.d3b,Tw.d3b,a7m];have e:((p.toNat&&&q.toNat:Nat):Int)=Tw.bI (p&&q):=by cases p<;>cases q<;>rfl
 rw[e];exact h)
theorem st_shlB (c:k<=1000)(h:Q (.int ((p.toNat*2^k:Nat):Int)) H):rI CPow (fun i j=>.int (i*2^j.toNat)) (.int (Tw.bI p)) (.int (k:Int)) H Q:=st_i (cpow_n c (by cases p<;>decide)) (by
 rw[A3p,Tw.d3b,Tw.pow2_cast,<- Int.natCast_mul];exact h)
end
section
variable {X:Cx}{K:A0a}
theorem ix_tupK (h:X.K=K):IxR X (rIxT K):=h▸a0s
theorem ix_listK (h:X.K=K):IxR X (rIxL K):=h▸a7q
end
section
variable {X:Cx}{K:A0a}
end
theorem all_getD (bs:List Bool):(A5d bs.length).all (fun i=>bs.getD i false)=bs.all id:=by
 rw[A6v,List.all_eq_true,List.all_eq_true]
 constructor
 ·intro h b hb;obtain⟨i,hi,e⟩:=List.getElem_of_mem hb;have:=h i (List.mem_range.mpr hi);rw[List.getD_eq_getElem?_getD,List.getElem?_eq_getElem hi,A6k,e] at this;exact this
 ·intro h i hi;have hi':=List.mem_range.mp hi;rw[List.getD_eq_getElem?_getD,List.getElem?_eq_getElem hi',A6k];exact h _ (A6m hi')
section
variable {X:Cx}
def rAll (K:A0a):List V->Hp->VK->Prop:=fun xs H Q=>∃(p:Addr) (bs:List Bool),xs=[.ref p]/\SqL K H p (bs.map V.bl)/\Q (.bl (bs.all id)) H
theorem c6z (hc:X.calm=true):b3k X (.builtin "all") (rAll X.K):=by
 intro pins s σ H xs us Q I r h;obtain⟨p,bs,rfl,hs,q⟩:=h;obtain⟨u,rfl,ru⟩:=a5f.one r;cases (show u=A1w p from ru);obtain⟨its,rv,pl,hz⟩:=I.list hs;have hlen:its.length=bs.length:=by rw[<- rv.length,A0c]
 have hpl:p<s.heap.objs.size:=by
  obtain⟨o,n,e,_⟩:=pl;exact A0n e
 refine call_all_walk (wpAny_pyIter_list pl.isList ?_);refine⟨s.heap.objs.size,[s.heap.objs.size,p],[s.heap.objs.size],its.toArray.size,_,_,fun i=>bs.getD i false,rfl,Walks.list (A:=X.A.in1) (I.ok.hd hc) s.heap.objs.size p (A1j hpl) its.toArray,⟨⟨_,Heap.get?_push_size _ rfl,rfl,rfl⟩,?_⟩,fun i v s' Q' E' hv hq=>?_,fun h' tk hk=>?_⟩
 ·exact pl.isList.at fun o e=>Heap.get?_push_of_some _ e
 ·have hv':its[i]? = some v:=by simpa using hv
  have hi:i<bs.length:=by
   rw[<- hlen];exact(List.getElem?_eq_some_iff.mp hv').1
  obtain⟨u,e1,e2⟩:=rv.get (i:=i) (x:=.bl bs[i]) (by rw[List.getElem?_map,List.getElem?_eq_getElem hi];rfl);rw[hv'] at e1;cases e1;cases (show v=B1v bs[i] from e2);refine A5u ?_;dsimp only at hq;rw[List.getD_eq_getElem?_getD,List.getElem?_eq_getElem hi,A6k] at hq;exact hq
 ·have e:its.toArray.size=bs.length:=by simpa using hlen
  rw[e,all_getD];refine⟨.bl _,H,I.kept (t':=tk) (h':=h') fun b o eb=>hk b o (fun z=>?_) (Heap.get?_push_of_some _ eb),rfl,q⟩;have:b=s.heap.objs.size:=by simpa using z
  exact A2v _ (this▸A0n eb)
theorem Inv.bigD {pins:List (Addr×Obj)}{s:Shared}(I:Inv X pins σ H s):sysModules<s.heap.objs.size:=by
 have h:mainGlobals<s.heap.objs.size:=(I.mod.glob.keeps I.bk).lt;exact B3n (by decide) h
def tDNew:TE:=fun _ H Q=>∀p,H p=none->Q (.ref p) (upd H p (.dK []))
theorem b6c {pos:Pos}:PE X (.Dict [] [] pos) tDNew:=fun pins s σ H Q I h=>
 wpAny_Dict_empty ⟨.ref s.heap.objs.size,_,I.laid (a:=s.heap.objs.size) (o:=.dK []) (t':=s.toks) (fun _ _ q=>Heap.get?_push_of_some _ q) (A0f _) ⟨A1v _,beq_eq_false_iff_ne.mpr (A1e (A1j I.bigD)),[],.nil,B3u s.heap⟩,rfl,h _ (I.hok.fresh (A0f _))⟩
def rLst (K:A0a):List V->Hp->VK->Prop:=fun xs H Q=>∃p ys,xs=[.ref p]/\(SqL K H p ys\/SqT K H p ys)/\∀l,H l=none->Q (.ref l) (upd H l (.lst ys))
theorem c1u:b3k X (.type "list") (rLst X.K):=call_list_of
end
section
variable {K:A0a}{H:Hp}{Q:VK}{a:Addr}{xs:List V}
theorem st_all {bs:List Bool}(s:SqL K H a (bs.map V.bl))(q:Q (.bl (bs.all id)) H):rAll K [.ref a] H Q:=⟨a,bs,rfl,s,q⟩
theorem st_lstT (s:SqT K H a xs)(q:∀l,H l=none->Q (.ref l) (upd H l (.lst xs))):rLst K [.ref a] H Q:=⟨a,xs,rfl,.inr s,q⟩
theorem d2s {R:Bool->Hp->Prop}(h:R true H):tYes σ H R:=h
theorem d0d {tt:TT}{te:TE}(e:∀P:V->Hp->Prop,P (.ref a) H->tl σ H P)(s:SqT K H a xs)(Pv:Nat->List V->Hp->Prop)(hn:xs.length<=1000)(h0:Pv 0 [] H)(hl:∀i ys H,Pv i ys H->ys.length<=i)(hk:∀i ys H,Pv i ys H->SqT K H a xs)
  (hs:∀i x ys H,xs[i]? = some x->Pv i ys H->tt (some x::σ) H fun b H2=>if b=true then te (some x::σ) H2 fun y H3=>Pv (i+1) (ys++[y]) H3 else Pv (i+1) ys H2)
  (hd:∀ys H,Pv xs.length ys H->∀p,H p=none->Q (.ref p) (upd H p (.lst ys))):c4q (iTup K tl) tt te σ H Q:=
 e _ ⟨a,rfl,⟨xs,s⟩,comp_tup Pv hn h0 hl hk hs hd⟩
theorem st_dnew (q:∀p,H p=none->Q (.ref p) (upd H p (.dK []))):tDNew σ H Q:=q
end
theorem kv_get:∀{kvs:List (Key×V)} {vs:List (Key×Value)},KV kvs vs->∀{i:Nat} {k:Key} {x:V},kvs[i]? = some (k,x)->∃v,vs[i]? = some (k,v)/\a4s x v:=by
 intro kvs vs r
 induction r with
 | nil=>intro i k x h;simp at h
 | @cons p q ps qs h t ih=>
  intro i k x e
  cases i with
  | zero=>
   obtain⟨h1,h2⟩:=h;have e':p=(k,x):=by simpa using e
   subst e';exact⟨q.2,by rw[List.getElem?_cons_zero];cases q;cases h1;rfl,h2⟩
  | succ i=>
   obtain⟨v,e1,e2⟩:=ih (by simpa using e);exact⟨v,by simpa using e1,e2⟩
theorem key_rel {k:Key}{u:Value}(h:(a1s P w).is k u=true):a4s (kV k) u:=by
 rcases a3r (show keyIs k u=true from h) with ⟨i,t,rfl,rfl⟩|⟨x,t,rfl,rfl⟩
 ·exact⟨t,rfl⟩
 ·exact⟨t,rfl⟩
section
variable {X:Cx}{pins:List (Addr×Obj)}{σ:St}{H:Hp}{s:Shared}{a:Addr}{kvs:List (Key×V)}{o:Obj}
theorem Inv.freeze (I:Inv X pins σ H s)(e:H a=some (.dK kvs))(ho:s.heap.get? a=some o):Inv X pins σ (upd H a (.frz o (.dK kvs))) s:=by
 have x:a5g X.prog X.w H s.heap a (.dK kvs):=I.hok a _ e;exact I.write (x:=a) (e:=a) (t':=s.toks) (h':=s.heap) (by rw[e];exact A4e) (.inl rfl) (fun b u _ q=>q) ⟨o,ho⟩ ⟨ho,x⟩
theorem Inv.thaw (I:Inv X pins σ H s)(h0:∀o u,X.H₀ a≠some (.frz o u))(e:H a=some (.frz o (.dK kvs))):Inv X pins σ (upd H a (.dK kvs)) s:=by
 have na:∀{b:Addr},H b=none->b≠a:=fun {b} q z=>by subst z;rw[q] at e;cases e
 have x:s.heap.get? a=some o/\a5g X.prog X.w H s.heap a (.dK kvs):=I.hok a _ e;refine⟨I.ok,I.os,I.bare,⟨I.base.keep,I.base.slot,fun b ob q n hx=>?_,I.base.there,fun b xs q=>?_,fun b ob u q=>?_,fun b ps q=>?_⟩,I.loc,I.cell,?_,fun y c q=>?_,fun p hp=>?_,fun b u q=>?_,I.len⟩
 ·have:=I.base.free b ob q n hx;rw[a0q (na this)];exact this
 ·have h1:=I.base.tups b xs q;have:b≠a:=fun z=>by subst z;rw[h1] at e;cases e
  rw[a0q this];exact h1
 ·have h1:=I.base.frzs b ob u q;have:b≠a:=fun z=>by subst z;exact h0 _ _ q
  rw[a0q this];exact h1
 ·obtain⟨more,h1⟩:=I.base.tbls b ps q;have:b≠a:=fun z=>by subst z;rw[h1] at e;cases e
  exact⟨more,by rw[a0q this];exact h1⟩
 ·rw[a0q (na I.free)];exact I.free
 ·rw[a0q (na (I.freeC y c q))];exact I.freeC y c q
 ·obtain⟨h1,h2,h3⟩:=I.pin p hp;exact⟨h1,by rw[a0q (na h2)];exact h2,h3⟩
 ·by_cases hb:b=a
  ·subst hb;rw[a0b] at q;cases q;exact x.2
  ·rw[a0q hb] at q;exact(I.hok b u q).stay (fun c v _ r=>r) (fun c r=>by rw[a0q (fun z=>by subst z;rw[r] at e;cases e)];exact r) fun c xs r=>by rw[a0q (fun z=>by subst z;rw[r] at e;cases e)];exact r
end
def Itd (a:Addr)(o:Obj)(kvs:List (Key×V)):It:=
 ⟨fun i H=>H a=some (.frz o (.dK kvs))/\i<kvs.length,fun i H x H'=>∃T k v,H T=none/\x=.ref T/\kvs[i]? = some (k,v)/\H'=upd H T (.tup [kV k,v]),fun i H=>H a=some (.frz o (.dK kvs))/\kvs.length<=i⟩
theorem d2c {K:A0a}(a it:Addr)(o:Obj)(kvs:List (Key×V)){es:Array DictEntry}{ep:Nat}(hep:o.data=.dict es ep) :
  Turn P w K (.Tuple elts kk tpos) (Itd a o kvs) [it] it (fun i h=>(∃ok ov,IsItemIter h it a i kvs.length ep ok ov)/\i<=kvs.length) where
 mem:=by simp
 obj:=fun i h st b hb=>by
  have e:b=it:=by simpa using hb
  subst e;obtain⟨⟨ok,ov,q⟩,_⟩:=st
  exact⟨_,q,fun v z=>by
   have z':Data.fields _=Data.cell v:=z
   cases z'⟩
 keep:=fun i h h' st k=>by
  obtain⟨⟨ok,ov,q⟩,l⟩:=st;exact⟨⟨ok,ov,k it (by simp) _ q⟩,l⟩
 item:=by
  intro X hP hw hK hc i pins s σ H E I hf st hg;subst hP hw hK;obtain⟨hz,hi⟩:=hg;obtain⟨f0,f1,f2,f3,f4,f5⟩:=hf it (by simp);obtain⟨⟨ok,ov,hit⟩,_⟩:=st;obtain⟨go,_,_,vs,rel,o',es',ep',g',ex,hd',r'⟩:=(show a5g X.prog X.w H s.heap a (.frz o (.dK kvs)) from I.hok a _ hz);rw[go] at g';cases g';rw[hep] at hd';cases hd';have hm:s.heap.DictAt (a1s X.prog X.w) a vs ep:=⟨o,es,go,ex,hep,r'⟩;have hl:vs.length=kvs.length:=rel.length.symm;obtain⟨k,x,hx⟩:∃k x,kvs[i]? = some (k,x):=⟨_,_,List.getElem?_eq_getElem hi⟩;obtain⟨v,hv,rv⟩:=kv_get rel hx;rw[<- hl] at hit;refine wpAny_pyNext_items_item (knd:=a1s X.prog X.w) hit hm hv fun key h' hkey hout htup hsz hkeep=>⟨_,rfl,wpAny_letOwnedTupleGo_items hout fun h2 hit2 hsb=>?_⟩;have hT:H s.heap.objs.size=none:=I.hok.fresh (A0f _);have hil:it≠s.heap.objs.size:=A1j (A0n hit);have kept:∀b o,b≠it->s.heap.get? b=some o->h2.get? b=some o:=fun b o hb q=>hsb.extBut b o hb (hkeep b o hb q);have eT:h2.get? s.heap.objs.size=some { cls:=.type "tuple",data:=.seq #[key,v] }:=hsb.extBut _ _ (A1e hil) htup;have ntr:∀b u,H b=some u->b≠it:=fun b u q z=>by rw[z,f0] at q;cases q
  have bT:∀b o,s.heap.get? b=some o->b≠s.heap.objs.size:=fun b o q=>A1j (A0n q);have nit:∀b,b∉[it]->b≠it:=fun b hb z=>hb (by simp[z])
  have un:Un (frs X.stack) [it] H (upd H s.heap.objs.size (.tup [kV k,x])) s.heap h2:=
   ⟨fun b o q _ _ n3=>kept b o (nit b n3) q,fun b o q _ _ n3=>⟨o.slots,kept b o (nit b n3) q⟩,fun b o q n _=>by rw[a0q (bT b o q)];exact n,fun b o q n3=>⟨o,kept b o (nit b n3) q⟩,
    fun b xs q=>by rw[a0q (a0p q hT)];exact q,fun b o v q=>by rw[a0q (a0p q hT)];exact q,fun b ps q=>⟨#[],by rw[a0q (a0p q hT),q];simp⟩⟩
  have hok:HOk X.prog X.w (upd H s.heap.objs.size (.tup [kV k,x])) h2:=fun b u q=>by
   by_cases hb:b=s.heap.objs.size
   ·subst hb;rw[a0b] at q;cases q;exact⟨A4h (a5r (show (2:Nat)<=1000 by decide)),[key,v],.cons (key_rel hkey) (.cons rv .nil),_,eT,rfl,_,rfl⟩
   ·rw[a0q hb] at q;refine(I.hok b u q).stay (fun c' v' hc2 q'=>?_) (fun c' q'=>by rw[a0q (a0p q' hT)];exact q') fun c' xs q'=>by rw[a0q (a0p q' hT)];exact q'
    rcases hc2 with r|r
    ·subst r;exact kept _ _ (ntr _ _ q) q'
    ·exact kept _ _ (ntr _ _ r) q'
  refine⟨.ref s.heap.objs.size,_,I.call' (s':={ s with heap:=h2 }) rfl un hok I.bare (fun b hb=>?_),rfl,⟨_,k,x,hT,rfl,hx,rfl⟩,⟨⟨_,_,by rw[<- hl];exact hit2⟩,hi⟩,fun b hb=>?_⟩
  ·have e:b=it:=by simpa using hb
   subst e;exact⟨f3,f1,f4,f5⟩
  ·have e:b=it:=by simpa using hb
   subst e;rw[a0q hil];exact f0
 done:=by
  intro X hP hw hK hc i pins s σ H E I hf st hg;subst hP hw hK;obtain⟨hz,hi⟩:=hg;obtain⟨f0,f1,f2,f3,f4,f5⟩:=hf it (by simp);obtain⟨⟨ok,ov,hit⟩,_⟩:=st;obtain⟨go,_,_,vs,rel,o',es',ep',g',ex,hd',r'⟩:=(show a5g X.prog X.w H s.heap a (.frz o (.dK kvs)) from I.hok a _ hz);rw[go] at g';cases g';rw[hep] at hd';cases hd';have hm:s.heap.DictAt (a1s X.prog X.w) a vs ep:=⟨o,es,go,ex,hep,r'⟩;have hl:vs.length=kvs.length:=rel.length.symm;rw[<- hl] at hit;exact wpAny_pyNext_items_end (knd:=a1s X.prog X.w) (I.ok.hd hc) hit hm (List.getElem?_eq_none (by omega)) fun h' eb=>⟨rfl,I.turned (t':=s.toks) (fun b o hb e=>eb b o (by simpa using hb) e) f0 f1 f3 f4 f5⟩
 self:=fun _ _ _ _ _ st h=>by
  obtain⟨⟨ok,ov,q⟩,_⟩:=st;exact PySem.W.kcp_self q h
section
variable {X:Cx}
def iItems (tl:TE):TI:=fun σ H R=>tl σ H fun x H1=>∃a kvs,x=.ref a/\((H1 a=some (.dK kvs)/\∀o,R (Itd a o kvs) (upd H1 a (.frz o (.dK kvs))))\/∃o,H1 a=some (.frz o (.dK kvs))/\R (Itd a o kvs) H1)
theorem b3e {l:Expr}{apos cpos:Pos}(hl:PE X l tl)(hbase:attributeBase l "items" X.env (eval l X.env)=eval l X.env:=by rfl)(hline:(apos.endLine==cpos.line)=true:=by rfl) :
  PI X (.Tuple elts kk tpos) (.Call (.Attribute l "items" apos) [] [] cpos) (iItems tl):=by
 intro pins s σ H R I h;refine wpAny_Call_method0_late hbase hline (thn (hl pins s σ H _ I h) fun v s1 hq9=>?_);obtain⟨x,H1,I1,r1,q1⟩:=hq9;obtain⟨a,kvs,rfl,q⟩:=q1;cases r1
 have rd:Rd H1 a (.dK kvs):=by
  rcases q with ⟨e,_⟩|⟨o,e,_⟩
  ·exact .inl e
  ·exact .inr ⟨o,e⟩
 obtain⟨z,hsy,vs,rel,dd⟩:=b6w I1.hok rd;obtain⟨o,es,ep,go,ex,hd,r'⟩:=id dd;refine⟨"dict","dict.items",B0s,B0t,PySem.F.type_dict_items,⟨o,go,ex.1⟩,fun b e=>by cases e;exact⟨o,go,ex.2.1⟩,A5g rfl (B2k ?_)⟩;refine call_meetsIn B0t dd.typeIs PySem.F.entry_dict_items (PySem.F.args_dict_items_1 _) (meets_dict_items (a1s X.prog X.w) a hsy) ⟨⟨vs,dd⟩,?_⟩;have I2:Inv X pins σ H1 { s1 with heap:=s1.heap.push { cls:=.type "dict_items",data:=.fields #[.ref a] } }:=I1.kept (t':=s1.toks) fun b ob e=>Heap.get?_push_of_some _ e;have hm:s1.heap.DictAt (a1s X.prog X.w) a vs ep:=⟨o,es,go,ex,hd,r'⟩;refine wpAny_pyIter_items (knd:=a1s X.prog X.w) (d:=a) (kvs:=vs) (ep:=ep) ⟨_,Heap.get?_push_size _ rfl,rfl,rfl⟩ (hm.push _) ?_;dsimp only;generalize hG:s1.heap.push { cls:=.type "dict_items",data:=.fields #[.ref a] }=G at I2 ⊢;have goG:G.get? a=some o:=by rw[<- hG];exact Heap.get?_push_of_some _ go
 have I3:∀H2,Inv X pins σ H2 { s1 with heap:=G }->Inv X pins σ H2 { s1 with heap:=G.push { cls:=.type "dict_itemiterator",data:=.fields #[.none,.bool false,.ref a,.int 0 0,.int vs.length 0,.int ep 0,.none,.none] } }:=fun H2 J=>J.kept (t':=s1.toks) fun b ob e=>Heap.get?_push_of_some _ e;have hln:vs.length=kvs.length:=rel.length.symm
 have st:∀i,i=0->(∃ok ov,IsItemIter (G.push { cls:=.type "dict_itemiterator",data:=.fields #[.none,.bool false,.ref a,.int 0 0,.int vs.length 0,.int ep 0,.none,.none] }) G.objs.size a i kvs.length ep ok ov)/\i<=kvs.length:=fun i hi=>by
  subst hi;refine⟨⟨.none,.none,?_⟩,A1v _⟩;rw[<- hln];exact Heap.get?_push_size _ rfl
 rcases q with ⟨e,q⟩|⟨o2,e,q⟩
 ·have J:=I2.freeze e goG;refine⟨G.objs.size,[G.objs.size],_,_,_,rfl,I3 _ J,d2c a _ o kvs hd,st 0 rfl,fun b hb=>?_,q o⟩;have e:b=G.objs.size:=by simpa using hb
  subst e;exact J.fpOk (A0f _) (J.hok.fresh (A0f _))
 ·have x:s1.heap.get? a=some o2:=(show s1.heap.get? a=some o2/\_ from I1.hok a _ e).1;rw[go] at x;cases x;refine⟨G.objs.size,[G.objs.size],_,_,_,rfl,I3 _ I2,d2c a _ o kvs hd,st 0 rfl,fun b hb=>?_,q⟩;have e:b=G.objs.size:=by simpa using hb
  subst e;exact I2.fpOk (A0f _) (I2.hok.fresh (A0f _))
def c1z.thaw (a:Addr)(kvs:List (Key×V))(D:c1z):c1z:=
 ⟨fun σ H=>∃o,H a=some (.frz o (.dK kvs))/\D.nx σ (upd H a (.dK kvs)),fun v H=>∃o,H a=some (.frz o (.dK kvs))/\D.rt v (upd H a (.dK kvs)),
  fun σ H=>∃o,H a=some (.frz o (.dK kvs))/\D.bk σ (upd H a (.dK kvs)),fun σ H=>∃o,H a=some (.frz o (.dK kvs))/\D.ct σ (upd H a (.dK kvs))⟩
def tThaw (t:TS):TS:=fun D σ H=>t D σ H\/∃a kvs,H a=some (.dK kvs)/\t (D.thaw a kvs) σ H
theorem b8d {st:Stmt}{t:TS}(h:PS X st t):PS X st (tThaw t):=by
 intro pins s σ H D I q
 rcases q with q|⟨a,kvs,e,q⟩
 ·exact h pins s σ H D I q
 have h0:∀o u,X.H₀ a≠some (.frz o u):=fun o u z=>by
  have:=I.base.frzs a o u z;rw[e] at this;cases this
 refine thn (h pins s σ H _ I q) fun f s1 q1=>?_
 cases f with
 | next=>obtain⟨σ1,H1,I1,o,e1,q1⟩:=q1;exact⟨σ1,_,I1.thaw h0 e1,q1⟩
 | brk=>obtain⟨σ1,H1,I1,o,e1,q1⟩:=q1;exact⟨σ1,_,I1.thaw h0 e1,q1⟩
 | cont=>obtain⟨σ1,H1,I1,o,e1,q1⟩:=q1;exact⟨σ1,_,I1.thaw h0 e1,q1⟩
 | ret u=>obtain⟨v,σ1,H1,I1,r1,o,e1,q1⟩:=q1;exact⟨v,σ1,_,I1.thaw h0 e1,r1,q1⟩
end
theorem a4v {g:TG}{tb:TS}{D:c1z}{a:Addr}{kvs:List (Key×V)}(e:∀P:V->Hp->Prop,P (.ref a) H->tl σ H P)(h:H a=some (.dK kvs))(Pv:Obj->Nat->St->Hp->Prop)
  (h0:∀o,Pv o 0 σ (upd H a (.frz o (.dK kvs)))) (hk:∀o i σ H,Pv o i σ H->H a=some (.frz o (.dK kvs)))
  (hs:∀o i k v σ H p,kvs[i]? = some (k,v)->Pv o i σ H->H p=none->g (.ref p) σ (upd H p (.tup [kV k,v])) fun σ2 H2=>tb { D.thaw a kvs with nx:=Pv o (i+1),ct:=Pv o (i+1),bk:=(D.thaw a kvs).nx } σ2 H2)
  (hd:∀o σ H,Pv o kvs.length σ H->D.nx σ (upd H a (.dK kvs))):tThaw (tFor (iItems tl) g tb) D σ H:=by
 refine .inr ⟨a,kvs,h,e _ ⟨a,kvs,rfl,.inl ⟨h,fun o=>⟨fun i m σ H=>m=kvs.length-i/\i<=kvs.length/\Pv o i σ H,⟨kvs.length,by simp,A1v _,h0 o⟩,?_⟩⟩⟩⟩;rintro i m σ H ⟨rfl,hi,p⟩
 by_cases hlt:i<kvs.length
 ·refine .inr ⟨⟨hk o i σ H p,hlt⟩,Pv o (i+1),fun σ' H' p'=>⟨kvs.length-(i+1),by omega,rfl,hlt,p'⟩,fun x H' y=>?_⟩;obtain⟨A,k,v,hA,rfl,hx,rfl⟩:=y;exact hs o i k v σ H A hx p hA
 ·have e:i=kvs.length:=by omega
  subst e;exact .inl ⟨⟨hk o _ σ H p,A0f _⟩,o,hk o _ σ H p,hd o σ H p⟩
end L2
set_option maxHeartbeats 1000000
namespace L2
open PySem PySem.Spec PyProof.Rows
open PySem.SeqAt (EqAt)
section
variable {prog:Program}{w:World}{A:Around}{E:Value->Shared->Prop}{s:Shared}{a b:Addr}{kvs kvs2:List (Key×Value)}{nm:String}
theorem samePairs_ok (hsa:(a==sysModules)=false)(hsb:(b==sysModules)=false)(h1:s.heap.DictOf (a1s prog w) a kvs)(h2:s.heap.DictOf (a1s prog w) b kvs2)(e:Key->Bool)
  (he:∀k v v2,(k,v)∈kvs->valueAt kvs2 k=some v2->EqAt A s v v2 (e k)) {Q:Bool->Shared->Prop} (h:Q (decide (kvs.length=kvs2.length)&&kvs.all fun p=>(valueAt kvs2 p.1).isSome&&e p.1) s) :
  wpAny (model prog w) A (A7g nm a b) Q E s:=by
 obtain⟨o1,es1,ep1,g1,x1,d1,k1,p1,n1⟩:=id h1;obtain⟨o2,es2,ep2,g2,x2,d2,k2,p2,n2⟩:=id h2;have l1:es1.size=kvs.length:=by rw[<- p1.length];simp
 have l2:es2.size=kvs2.length:=by rw[<- p2.length];simp
 unfold A7g Builtin.Dict.showsAll;rw[if_neg (by rw[hsa];exact A1d),if_neg (by rw[hsb];exact A1d)];refine A0b (A0h (A0b (A0h ?_)));refine A0b (A7n g1 d1 ?_);refine A0b (A7n g2 d2 ?_)
 by_cases hsz:es1.size=es2.size
 case neg=>
  rw[if_pos (by simpa using hsz)];rw[decide_eq_false (by rw[<- l1,<- l2];exact hsz),A2x] at h;exact A0b (wpAny_rule (A0h h))
 case pos=>
  rw[if_neg (by simpa using hsz)];rw[decide_eq_true (by rw[<- l1,<- l2];exact hsz),A2d] at h;refine A0b (wpAny_dictEpoch g1 d1 ?_);refine A0b ?_;rw[A5w];simp only[B1n,Nat.sub_zero,Nat.add_sub_cancel,Nat.div_one]
  refine wpAny_forIn_list _
   (fun rest r s'=>∃i,s'=s/\rest=B0u i (es1.size-i)/\i<=es1.size/\r=(none,())/\(kvs.take i).all (fun p=>(valueAt kvs2 p.1).isSome&&e p.1)=true)
   _ ?_ ?_ _ _ ⟨0,rfl,by simp,A1v _,rfl,by simp⟩
  ·rintro x rest _ _ ⟨i,rfl,hr,hi,rfl,hall⟩
   have hlt:i<es1.size:=by
    rcases A4d i es1.size with h|h
    ·exact h
    ·rw[Nat.sub_eq_zero_of_le h] at hr;simp at hr
   obtain⟨rfl,hrest⟩:x=i/\rest=B0u (i+1) (es1.size-(i+1)):=by
    have e:es1.size-i=(es1.size-(i+1))+1:=by omega
    rw[e,A7z] at hr
    injection hr with h1 h2
    exact⟨h1,h2⟩
   refine A0b (A7n g1 d1 ?_);rw[Array.getElem?_eq_getElem hlt];obtain⟨⟨k,v⟩,hkv⟩:∃kv,kvs[x]? = some kv:=⟨kvs[x]'(by rw[<- l1];exact hlt),List.getElem?_eq_getElem _⟩;obtain⟨hkey,hval⟩:=p1.get? (e:=es1[x]) (by simp[hlt]) hkv;obtain⟨k',hkey',hhash⟩:=k1 es1[x] (Array.getElem_mem hlt);obtain rfl:k'=k:=(a1s prog w).inj _ _ _ hkey' hkey;have hmem:(k',v)∈kvs:=List.mem_of_getElem? hkv
   have step:∀b:Bool,b=((valueAt kvs2 k').isSome&&e k')->(kvs.take (x+1)).all (fun p=>(valueAt kvs2 p.1).isSome&&e p.1)=b:=fun b hb=>by
    rw[Tw.d5u hkv,List.all_append,hall,A2d,hb];simp
   have whole:(kvs.take (x+1)).all (fun p=>(valueAt kvs2 p.1).isSome&&e p.1)=false->kvs.all (fun p=>(valueAt kvs2 p.1).isSome&&e p.1)=false:=fun hf=>by
    rw[<- List.take_append_drop (x+1) kvs,List.all_append,hf,A2x]
   have mf:valueAt kvs2 k'=findBy (a1s prog w).is es2 k':=by
    obtain⟨o3,es3,ep3,g3,_,d3,_,f3⟩:=h2.mapOf;rw[g2] at g3;cases g3;rw[d2] at d3;cases d3;exact(f3 k').symm
   refine A0b (A5b ?_);rw[hhash,hval];refine A0b (wpAny_dictFind_of hkey g2 d2 k2 ?_);rw[findBy_of_findIdx?] at mf
   cases hf:es2.findIdx? (fun e=>(a1s prog w).is k' e.key) with
   | none=>
    rw[hf] at mf;refine A0h ?_;rw[if_pos (by rfl)];refine A0h (A0h ?_);rw[whole (step false (by rw[mf];rfl))] at h;exact h
   | some j=>
    obtain⟨hj,_,_⟩:=Array.findIdx?_eq_some_iff_getElem.mp hf;rw[hf] at mf;have mf':valueAt kvs2 k'=some es2[j].val:=by rw[mf];simp[hj]
    refine A0b (A7n g2 d2 ?_);rw[Array.getElem?_eq_getElem hj];refine A5b (he k' v _ hmem mf' _ _ _ _ ?_)
    cases hek:e k' with
    | false=>
     rw[if_pos (by rfl)];refine A0h (A0h ?_);rw[whole (step false (by rw[hek,A6f]))] at h;exact h
    | true=>
     rw[if_neg (by decide)];refine A0b (wpAny_dictEpoch g1 d1 ?_);rw[if_neg (by simp)];exact A0h ⟨x+1,rfl,hrest,hlt,rfl,step true (by rw[hek,mf'];rfl)⟩
  ·rintro _ _ ⟨i,rfl,hr,hi,rfl,hall⟩
   have hin:i=es1.size:=by
    rcases A4d i es1.size with h|h
    ·have e:es1.size-i=(es1.size-(i+1))+1:=by omega
     rw[e,A7z] at hr;exact nomatch hr
    ·exact Nat.le_antisymm hi h
   rw[hin,l1,A1h] at hall;rw[hall] at h;exact A0h h
end
theorem kv_mem:∀{kvs:List (Key×V)} {vs:List (Key×Value)},KV kvs vs->∀{k:Key} {v:Value},(k,v)∈vs->∃x,(k,x)∈kvs/\a4s x v:=by
 intro kvs vs r
 induction r with
 | nil=>intro k v h;cases h
 | @cons p q ps qs h t ih=>
  intro k v m
  rcases List.mem_cons.mp m with e|m
  ·subst e;obtain⟨h1,h2⟩:=h;obtain⟨pk,px⟩:=p;cases (show pk=k from h1);exact⟨px,A0k ..,h2⟩
  ·obtain⟨x,m',rx⟩:=ih m;exact⟨x,A0d _ m',rx⟩
theorem valV_mem {kvs:List (Key×V)}{k:Key}{x:V}(h:d0n kvs k=some x):(k,x)∈kvs:=by
 unfold d0n at h;obtain⟨p,hp,e⟩:=Option.map_eq_some_iff.mp h;have m:=List.mem_of_find?_eq_some hp
 have ek:p.1=k:=by
  have z:=List.find?_some hp;exact of_decide_eq_true z
 obtain⟨pk,px⟩:=p;cases (show pk=k from ek);cases (show px=x from e);exact m
def d5k (d:PyData):Prop:=d.canLay0=true/\d.depth<=8
def c2f (kvs kvs2:List (Key×V))(f g:Key->PyData):Bool:=decide (kvs.length=kvs2.length)&&kvs.all fun p=>(d0n kvs2 p.1).isSome&&A2q (f p.1) (g p.1)
def rEqM (neg:Bool)(K:A0a):R2:=fun x y H Q=>∃a b kvs kvs2 f g,x=.ref a/\y=.ref b/\Rd H a (.dK kvs)/\Rd H b (.dK kvs2)/\(∀k x,(k,x)∈kvs->DV K H x (f k)/\d5k (f k))/\(∀k x,(k,x)∈kvs2->DV K H x (g k)/\d5k (g k))/\
 Q (.bl (c2f kvs kvs2 f g ^^ neg)) H
section
variable {X:Cx}{pins:List (Addr×Obj)}{σ:St}{H:Hp}{s:Shared}{a b:Addr}{kvs kvs2:List (Key×V)}{f g:Key->PyData}
theorem d2d {A:Around}{E:Value->Shared->Prop}{nm:String}{Q:Bool->Shared->Prop}(hu:A.units+8<cLine)(I:Inv X pins σ H s)(ha:Rd H a (.dK kvs))(hb:Rd H b (.dK kvs2))(hf:∀k x,(k,x)∈kvs->DV X.K H x (f k)/\d5k (f k))
  (hg:∀k x,(k,x)∈kvs2->DV X.K H x (g k)/\d5k (g k)) (h:Q (c2f kvs kvs2 f g) s):wpAny (model X.prog X.w) A (A7g nm a b) Q E s:=by
 obtain⟨_,s1,vs,r1,d1⟩:=b6w I.hok ha;obtain⟨_,s2,vs2,r2,d2⟩:=b6w I.hok hb;refine samePairs_ok s1 s2 d1 d2 (fun k=>A2q (f k) (g k)) (fun k v v2 m e=>?_) ?_
 ·obtain⟨x,mx,rx⟩:=kv_mem r1 m;have q:=r2.val k;rw[e] at q
  cases ev:d0n kvs2 k with
  | none=>rw[ev] at q;exact(show False from q).elim
  | some x2=>
   rw[ev] at q;have rx2:a4s x2 v2:=q;obtain⟨dx,sx⟩:=hf k x mx;obtain⟨dx2,sx2⟩:=hg k x2 (valV_mem ev);obtain⟨as,ra⟩:=dx.reads I rx;obtain⟨bs,rb⟩:=dx2.reads I rx2;exact SeqAt.eqAt_reads _ _ _ _ _ _ _ _ ra rb sx.1 sx2.1 (by have h8:=sx.2;have hm:=Nat.min_le_left (f k).depth (g k).depth;omega)
 ·have e1:vs.length=kvs.length:=r1.length.symm;have e2:vs2.length=kvs2.length:=r2.length.symm
  have e3:(vs.all fun p=>(valueAt vs2 p.1).isSome&&A2q (f p.1) (g p.1))=kvs.all fun p=>(d0n kvs2 p.1).isSome&&A2q (f p.1) (g p.1):=by
   have hk:∀k,(valueAt vs2 k).isSome=(d0n kvs2 k).isSome:=fun k=>((r2.val k).isSome_eq).symm
   have a1:(vs.all fun p=>(valueAt vs2 p.1).isSome&&A2q (f p.1) (g p.1))=(vs.map (·.1)).all fun k=>(d0n kvs2 k).isSome&&A2q (f k) (g k):=by
    rw[List.all_map]
    congr 1
    funext p
    simp only[Function.comp_apply,hk]
   have a2:(kvs.all fun p=>(d0n kvs2 p.1).isSome&&A2q (f p.1) (g p.1))=(kvs.map (·.1)).all fun k=>(d0n kvs2 k).isSome&&A2q (f k) (g k):=by
    rw[List.all_map];rfl
   rw[a1,a2,r1.keys]
  rw[e1,e2,e3];exact h
theorem op_eqM (hu:X.A.units+64<cLine):OpR X (compareOp .Eq) (rEqM false X.K):=by
 intro pins s σ H x y v u Q I rx ry h;obtain⟨a,b,kvs,kvs2,f,g,rfl,rfl,ha,hb,hf,hg,q⟩:=h;cases rx;cases ry;obtain⟨_,s1,vs,r1,d1⟩:=b6w I.hok ha;obtain⟨_,s2,vs2,r2,d2⟩:=b6w I.hok hb;show wpAny _ _ (richCompare .Eq (.ref a) (.ref b)) _ _ s;refine A8r d1.typeIs d2.typeIs B2a (A4g B2a d1.typeIs PySem.F.entry_dict_eq ?_ (PySem.F.args_dict_eq_2 _ _)) (by omega);show wpAny _ _ (A4q "__eq__" ⟨[.ref a,.ref b],[]⟩ >>= _) _ _ s;refine A0b ?_;unfold A4q;refine A0b (wpAny_notOrdered_dict d1.typeIs ?_);show wpAny _ _ (pure ((A1w a,A1w b):Value×Value)) _ _ s;refine A0h ?_;refine A0b (wpAny_isInstance d2.typeIs B1p ?_);rw[if_neg (by decide)];refine A0b (A0h (A0b (A0h ?_)));refine A0b (d2d (by rw[units_in1];omega) I ha hb hf hg ?_);refine A0h ?_;refine Exists.intro _ (B3v rfl (B3v (fun z=>nomatch z) ?_));refine⟨.bl _,H,I,rfl,?_⟩;rw[A2u] at q;have e:(c2f kvs kvs2 f g==true)=c2f kvs kvs2 f g:=by cases c2f kvs kvs2 f g<;>rfl
 rw[e];exact q
theorem op_neM (hu:X.A.units+64<cLine):OpR X (compareOp .NotEq) (rEqM true X.K):=by
 intro pins s σ H x y v u Q I rx ry h;obtain⟨a,b,kvs,kvs2,f,g,rfl,rfl,ha,hb,hf,hg,q⟩:=h;cases rx;cases ry;obtain⟨_,s1,vs,r1,d1⟩:=b6w I.hok ha;obtain⟨_,s2,vs2,r2,d2⟩:=b6w I.hok hb;show wpAny _ _ (richCompare .NotEq (.ref a) (.ref b)) _ _ s;refine A8r d1.typeIs d2.typeIs B2b (A4g B2b d1.typeIs PySem.F.entry_dict_ne ?_ (PySem.F.args_dict_ne_2 _ _)) (by omega);show wpAny _ _ (A4q "__ne__" ⟨[.ref a,.ref b],[]⟩ >>= _) _ _ s;refine A0b ?_;unfold A4q;refine A0b (wpAny_notOrdered_dict d1.typeIs ?_);show wpAny _ _ (pure ((A1w a,A1w b):Value×Value)) _ _ s;refine A0h ?_;refine A0b (wpAny_isInstance d2.typeIs B1p ?_);rw[if_neg (by decide)];refine A0b (A0h (A0b (A0h ?_)));refine A0b (d2d (by rw[units_in1];omega) I ha hb hf hg ?_);refine A0h ?_;refine Exists.intro _ (B3v rfl (B3v (fun z=>nomatch z) ?_));refine⟨.bl _,H,I,rfl,?_⟩;have e:(c2f kvs kvs2 f g==false)=(c2f kvs kvs2 f g ^^ true):=by cases c2f kvs kvs2 f g<;>rfl
 rw[e];exact q
end
end L2
namespace L2
open PySem PySem.Spec PyProof.Rows
variable {K:A0a}{C a dx:Addr}{xs:Array (Int×Tok)}{neg:Bool}{H:Hp}{i:Int}{T:List (Str×Int)}{is ns:List Int}{k:Str}{x:V}{E:XK}
section
variable {X:Cx}
def rDict:List V->Hp->VK->Prop:=fun xs H Q=>∃a kvs,xs=[.ref a]/\Rd H a (.dK kvs)/\∀p,H p=none->Q (.ref p) (upd H p (.dK kvs))
theorem d2m:b3k X (.type "dict") rDict:=by
 intro pins s σ H xs us Q I r h;obtain⟨a,kvs,rfl,e,q⟩:=h;obtain⟨u,rfl,ru⟩:=a5f.one r;cases (show u=A1w a from ru);exact d_copyOf I e fun p s' hp I'=>⟨.ref p,_,I',rfl,q p hp⟩
end
section
variable {K:A0a}{H:Hp}{Q:VK}{a b:Addr}{kvs kvs2:List (Key×V)}{σ:St}{td ty tx tv:TE}
theorem st_dict (h:H a=some (.dK kvs))(q:∀p,H p=none->Q (.ref p) (upd H p (.dK kvs))):rDict [.ref a] H Q:=⟨a,kvs,rfl,.inl h,q⟩
abbrev atZ (kvs:List (Key×V))(i:Int):Option V:=d0n kvs (.inl i)
theorem dget_z (h:Rd H a (.dK kvs)):DGet H a (.int i) (atZ kvs i):=.inl ⟨kvs,.inl i,h,rfl,rfl⟩
theorem c8t {v:V}(h:H a=some (.dK kvs))(hl:kvs.length<=1000):DPut H a (.int i) v (upd H a (.dK (c5r kvs (.inl i) v))):=.inl ⟨kvs,.inl i,h,rfl,a5r hl,rfl⟩
theorem st_dget2 (h:td σ H fun x H1=>∃a,x=.ref a/\IsD H1 a/\ty σ H1 fun y H2=>tx σ H2 fun z H3=>∃o,DGet H3 a y o/\Q (o.getD z) H3):tDGet2 td ty tx σ H Q:=h
theorem st_dput {D:c1z}(h:tv σ H fun v H1=>td σ H1 fun x H2=>ty σ H2 fun y H3=>∃a H4,x=.ref a/\DPut H3 a y v H4/\D.nx σ H4):sDPut td ty tv D σ H:=h
theorem st_eqM {f g:Key->PyData}(ha:Rd H a (.dK kvs))(hb:Rd H b (.dK kvs2))(hf:∀k x,(k,x)∈kvs->DV K H x (f k)/\d5k (f k))(hg:∀k x,(k,x)∈kvs2->DV K H x (g k)/\d5k (g k))(q:Q (.bl (c2f kvs kvs2 f g ^^ neg)) H):rEqM neg K (.ref a) (.ref b) H Q:=
 ⟨a,b,kvs,kvs2,f,g,rfl,rfl,ha,hb,hf,hg,q⟩
end
def d5t (p:Int×Int):PyData:=.tuple ([p.1,p.2].map B1x)
theorem pair_flat (p:Int×Int):d5k (d5t p):=by
 have h:=b0u [p.1,p.2];refine⟨SeqAt.canLay_of_shaped h,?_⟩;simp[d5t,A7v,B2m,A4w]
theorem pair_dv {p:Int×Int}(h:SqT K H a [.int p.1,.int p.2]):DV K H (.ref a) (d5t p):=.tup h (a7y [p.1,p.2])
theorem pair_eqv (p q:Int×Int):A2q (d5t p) (d5t q)=decide (p=q):=by
 unfold d5t;rw[A2q,b6p];obtain⟨a,b⟩:=p;obtain⟨c,d⟩:=q;simp
structure d1e (P:Program)(w:World)(K:A0a)(mg:Str->Option Value)(base:Heap)(CX:CXT)(k:Nat)(x:Str)(C:Addr)(ps:List Str)(sp:Sp):Prop where
 ex:∃f fd,Mk K C f/\a2k P w K mg base CX k f fd ps sp/\b9e K fd ps []/\mg x=some (.ref C)
structure b6y (P:Program)(w:World)(K:A0a)(mg:Str->Option Value)(base:Heap)(CX:CXT)(k:Nat)(C:Addr)(m:Str)(ps:List Str)(sp:Sp):Prop where
 cl:Cls K C
 ex:∃f fd,Meth K C m f/\a2k P w K mg base CX k f fd ps sp/\b9e K fd ps []
structure CMeth (K:A0a)(C:Addr)(m:Str)(f:Addr):Prop where
 g:A5v K (.ref C) "__getattribute__" = some (some (.builtin "type.__getattribute__"))
 r:B1q K C (.type "type")=true
 e:B1r K (.ref C) (.type "type") m=some (.val (.ref f))
 kp:A1s K (.ref f)=true
structure CCal (P:Program)(w:World)(K:A0a)(mg:Str->Option Value)(base:Heap)(CX:CXT)(k:Nat)(x m:Str)(ps:List Str)(sp:Sp):Prop where
 ex:∃C f fd,mg x=some (.ref C)/\CMeth K C m f/\a2k P w K mg base CX k f fd ps sp/\b9e K fd ps []
section
variable {X:Cx}{CX:CXT}{j k:Nat}{C:Addr}{ps:List Str}{sp:Sp}{E:XK}{x m:Str}{p pos apos:Pos}{e o:Expr}{es:List Expr}{ta:TE}{t:TA}
theorem b4c (c:d1e X.prog X.w X.K X.mg X.base CX k x C ps sp)(hr:b4h j X.A)(hx:b7k CX X E)(ha:PA X (e::es) t)(hk:k+1<=j:=by decide)(hg:Gl X x:=by rfl)(hdb:(x==("__debug__":Str))=false:=by decide)
  (he:starEach (e::es) X.env=(false,eval e X.env)::starEach es X.env:=by rfl) (hpl:(backTo pos (starEach es X.env)).any (·.1)=false:=by rfl) :
  PE X (.Call (.Name x p) (e::es) [] pos) (tMake C sp [] E t):=by
 obtain⟨f,fd,M,F,b,m⟩:=c.ex;exact pe_make M F (hr.mono hk) hg m b .nil hx ha hdb he hpl
theorem pe_cm {pl:Sem Bool}(c:CCal X.prog X.w X.K X.mg X.base CX k x m ps sp)(hr:b4h j X.A)(hx:b7k CX X E)(ha:PA X (e::es) t)(hk:k<=j:=by decide)(hg:Gl X x:=by rfl)(hdb:(x==("__debug__":Str))=false:=by decide)
  (hst:starEach (e::es) X.env=(false,eval e X.env)::starEach es X.env:=by rfl) (hpl:(backTo pos (starEach es X.env)).any (·.1)=false:=by rfl)
  (ht:eval (.Call (.Attribute (.Name x p) m apos) (e::es) [] pos) X.env=(do
   let ov <- eval (.Name x p) X.env
   standAt apos.atName
   let (f,first) <- holding [ov] (getMethod ov m pl)
   callWith pos f first (backTo pos (starEach (e::es) X.env)) (backToKw pos (keywordEach [] X.env))):=by rfl) :
  PE X (.Call (.Attribute (.Name x p) m apos) (e::es) [] pos) (tCall sp [] E t):=by
 intro pins s σ H Q I h;obtain⟨C,f,fd,hm,cm,F,b⟩:=c.ex;refine A7w (pl:=pl) (c7q I hg hm ?_ hdb) ht;refine PySem.W.method_cls I.kIn cm.g (PySem.W.cls_value I.kIn cm.r cm.e rfl ?_);refine A5k (first:=[]) (h₀:=X.base) I.ok.mod.kin cm.kp (thn (ha pos pins _ σ H _ (I.tok _) h) fun us s2 ⟨vs,H2,I2,r,q2⟩=>⟨I2.kIn,?_⟩) hst hpl;exact run_fn F (hr.mono hk) b .nil hx I2 r q2
def Tab (K:A0a)(a:Addr)(D:List (Str×Int)):Prop:=KTD.tabLook (KTD.datLooks fun b=>K.lookup b) (fun b=>K.lookup b) a (D.map fun p=>(p.1,A9q (.int p.2)))=true
def GTab (K:A0a)(mg:Str->Option Value)(x:Str)(a:Addr)(D:List (Str×Int)):Prop:=mg x=some (.ref a)/\Tab K a D
theorem pe_gt {D:List (Str×Int)}(h:GTab X.K X.mg x a D)(hg:Gl X x:=by rfl)(hd:(x==("__debug__":Str))=false:=by decide):PE X (.Name x pos) (tC (.ref a)):=pe_glob hg h.1 rfl hd
def tabAt (k:Str)(D:List (Str×Int)):Option Int:=A5q k D
theorem tab_keys {k:Str}:∀D:List (Str×Int),KTD.inKeys k (D.map fun p=>(p.1,A9q (.int p.2)))=(A5q k D).isSome:=by
 intro D;rw[<- KTD.isSome_datumAt]
 induction D with
 | nil=>rfl
 | cons p D ih=>
  rw[A0m];unfold A5q
  by_cases hk:k=p.1
  ·simp only[hk];rfl
  ·simp only[hk];exact ih
theorem tab_datum {k:Str}{d:KTD.Dat}:∀D:List (Str×Int),A5q k (D.map fun p=>(p.1,A9q (.int p.2)))=some d->∃i,A5q k D=some i/\d=.flat (.int i):=by
 intro D
 induction D with
 | nil=>intro h;cases h
 | cons p D ih=>
  rw[A0m];unfold A5q
  by_cases hk:k=p.1
  ·simp only[hk];intro h;exact⟨p.2,rfl,(A0j h).symm⟩
  ·simp only[hk];exact ih
def rInTab (K:A0a)(neg:Bool):R2:=fun x y H Q=>∃k a D,x=.str k/\y=.ref a/\Tab K a D/\Q (.bl (neg != (tabAt k D).isSome)) H
theorem op_notInTab:OpR X (compareOp .NotIn) (rInTab X.K true):=by
 intro pins s σ H x y v u Q I rx ry h;obtain⟨k,a,D,rfl,rfl,hT,q⟩:=h;obtain⟨t,rfl⟩:=rx;cases ry;refine KTD.notin_text ⟨B2w I.kIn hT,fun _ _ z=>z⟩ ⟨.bl _,H,I.tok _,rfl,?_⟩;rw[tab_keys];have e:(true != (tabAt k D).isSome) = !(A5q k D).isSome:=by unfold tabAt;cases (A5q k D).isSome<;>rfl
 rw[e] at q;exact q
def rIxTab (K:A0a):R2:=fun x y H Q=>∃k a D i,x=.ref a/\y=.str k/\Tab K a D/\tabAt k D=some i/\Q (.int i) H
theorem plain_tab:∀D:List (Str×Int),((D.map fun p=>(p.1,A9q (.int p.2))).all fun p=>KTD.plain p.2)=true:=by
 intro D
 induction D with
 | nil=>rfl
 | cons p D ih=>rw[A0m,A8e,ih];rfl
theorem ix_tab:IxR X (rIxTab X.K):=by
 intro value slice pins s σ H x y v u Q I rx ry h hs;obtain⟨k,a,D,i,rfl,rfl,hT,hi,q⟩:=h;cases rx;obtain⟨t,rfl⟩:=ry;have T:KTD.Here s.heap s.heap a (D.map fun p=>(p.1,A9q (.int p.2))):=⟨B2w I.kIn hT,fun _ _ z=>z⟩;refine subscriptTail_builtin_flat T.typeIs slot_dict_getitem.lookup ?_ hs;unfold getItem
 try with_reducible refine A5b ?_
 refine A0b (A7j T.typeIs (by decide) ?_)
 refine A0b (wpAny_callSpecial?_slot (name:=A9h "__getitem__") T.typeIs slot_dict_getitem
  (A4g slot_dict_getitem T.typeIs entry_dict_getitem ?_ (args_dict_getitem _ _)))
 show wpAny _ _ (dictGet a (.str k t) >>= _) _ _ s;refine A0b (KTD.dictGet_text T (fun d v ha hv=>A0h ⟨v,rfl,A0h ⟨KTD.notRef_of_plain (KTD.plain_at (plain_tab D) ha) hv,?_⟩⟩) fun hn=>absurd hn (KTD.at_of_mem (by rw[tab_keys];show (tabAt k D).isSome=true;rw[hi];rfl)));obtain⟨i',e1,rfl⟩:=tab_datum D ha
 have e2:i'=i:=by
  have e3:A5q k D=some i:=hi;rw[e3] at e1;exact(A0j e1).symm
 subst e2;have hv':PyProof.V.Flat v (.int i'):=hv;obtain⟨t',rfl⟩:=hv'.int_inv;exact⟨.int i',H,I.tok _,⟨_,rfl⟩,q⟩
end
theorem b2z:∀{ns:List Int} {us:List Value},a5f (ns.map V.int) us->∃xs:Array (Int×Tok),us.toArray=intItems xs/\xs.toList.map (·.1)=ns
 | [],[],_=>⟨#[],by simp[intItems],rfl⟩
 | n::ns,u::us,r=>by
  cases r with
  | cons r1 r2=>
   obtain⟨t,rfl⟩:=r1;obtain⟨xs,e1,e2⟩:=b2z r2;refine⟨((n,t)::xs.toList).toArray,?_,?_⟩
   ·have e3:us=(intItems xs).toList:=by rw[<- e1]
    rw[e3];simp[intItems]
   ·simp[e2]
def rBest (K:A0a)(le:Int->Int->Prop):List V->Hp->VK->Prop:=fun xs H Q=>∃(p:Addr) (ns:List Int),xs=[.ref p]/\(SqL K H p (ns.map V.int)\/SqT K H p (ns.map V.int))/\0<ns.length/\∀M,M∈ns->(∀a∈ns,le a M)->Q (.int M) H
section
variable {X:Cx}{s:Shared}{A:Around}{E:Value->Shared->Prop}
theorem c5q {pins:List (Addr×Obj)}{σ:St}{Q:VK}{num:Nat->Nat->Bool}{le:Int->Int->Prop}(I:Inv X pins σ H s)(ex:xs.toList.map (·.1)=ns)(hne:0<ns.length)
  (hb:argBest num (xs.size-1)<=xs.size-1/\∀j,j<=xs.size-1->le (numAt xs j) (numAt xs (argBest num (xs.size-1)))) (q:∀M,M∈ns->(∀a∈ns,le a M)->Q (.int M) H)
  {v:Value} {h':Heap} {tk:Nat} (hv:(intItems xs)[argBest num (xs.size-1)]? = some v) (hk:∀b o,s.heap.get? b=some o->h'.get? b=some o):EP X pins σ Q v { s with heap:=h',toks:=tk }:=by
 obtain⟨t,rfl⟩:=intItems_at hv
 have hsz:0<xs.size:=by
  rw[<- ex,A0c,A2g] at hne;exact hne
 refine⟨.int _,H,I.kept hk,⟨_,rfl⟩,q _ ?_ fun a ha=>?_⟩
 ·rw[<- ex,numAt_eq];exact getD_mem (by rw[A0c,A2g];omega)
 ·rw[<- ex] at ha;obtain⟨j,hj,rfl⟩:=mem_getD ha;rw[A0c,A2g] at hj;rw[<- numAt_eq];exact hb.2 j (by omega)
theorem tup_kept {l:Addr}(hT:s.heap.IsTuple l (intItems xs)){h':Heap}(hk:∀b o,b∉[s.heap.objs.size]->(s.heap.push { cls:=.type "tuple_iterator",data:=.fields #[.ref l,.int 0 0] }).get? b=some o->h'.get? b=some o) :
  ∀b o,s.heap.get? b=some o->h'.get? b=some o:=fun b o e=>by
 refine hk b o (fun hm=>?_) (Heap.get?_push_of_some _ e)
 rcases List.mem_cons.mp hm with e1|hm
 ·exact absurd (e1▸A0n e) (A2v _)
 ·cases hm
theorem c5n (ex:xs.toList.map (·.1)=ns)(hne:0<ns.length):0<xs.size:=by
 rw[<- ex,A0c,A2g] at hne;exact hne
theorem call_maxL (hc:X.calm=true):b3k X (.builtin "max") (rBest X.K fun a M=>a<=M):=by
 intro pins s σ H xs us Q I r h;obtain⟨p,ns,rfl,hs,hne,q⟩:=h;obtain⟨u,rfl,ru⟩:=vals1 r;cases ru
 rcases hs with hs|hs
 ·obtain⟨its,ri,pl,_⟩:=I.list hs;obtain⟨xs,e1,e2⟩:=b2z ri;have hl:s.heap.IsList p (intItems xs):=by rw[<- e1];exact pl.isList
  exact max_intList (I.ok.hd hc) hl (c5n e2 hne) fun v h' tk hv hk=>c5q I e2 hne (argBest_gt (numAt xs) (xs.size-1)) q hv hk
 ·obtain⟨its,ri,pl,_⟩:=I.tuple hs;obtain⟨xs,e1,e2⟩:=b2z ri;have hT:s.heap.IsTuple p (intItems xs):=by rw[<- e1];exact pl
  have hlt:p<s.heap.objs.size:=by obtain⟨_,e,_⟩:=hT;exact A0n e
  refine call_max_walk (A9f hT ?_)
  refine⟨_,[_,p],[_],_,_,_,_,rfl,Walks.tuple (A:=X.A.in1) (I.ok.hd hc) _ p (A1j hlt) (intItems xs),⟨⟨_,Heap.get?_push_size _ rfl,rfl,rfl⟩,hT.push _⟩,fun c hc'=>?_,
   by simpa[intItems] using c5n e2 hne,CmpOf.ints_gt (numAt xs) (fun _ _=>intItems_at),fun v h' tk hP hk=>?_⟩
  ·show c<(s.heap.push _).objs.size;rw[A5e]
   rcases List.mem_cons.mp hc' with rfl|hc'
   ·exact A3t _
   ·rcases List.mem_cons.mp hc' with rfl|hc'
    ·exact A5x hlt
    ·cases hc'
  ·exact c5q I e2 hne (argBest_gt (numAt xs) (xs.size-1)) q (by simpa[intItems] using hP) (tup_kept hT hk)
theorem call_minL (hc:X.calm=true):b3k X (.builtin "min") (rBest X.K fun a M=>M<=a):=by
 intro pins s σ H xs us Q I r h;obtain⟨p,ns,rfl,hs,hne,q⟩:=h;obtain⟨u,rfl,ru⟩:=vals1 r;cases ru
 rcases hs with hs|hs
 ·obtain⟨its,ri,pl,_⟩:=I.list hs;obtain⟨xs,e1,e2⟩:=b2z ri;have hl:s.heap.IsList p (intItems xs):=by rw[<- e1];exact pl.isList
  exact min_intList (I.ok.hd hc) hl (c5n e2 hne) fun v h' tk hv hk=>c5q (le:=fun a M=>M<=a) I e2 hne (argBest_lt (numAt xs) (xs.size-1)) q hv hk
 ·obtain⟨its,ri,pl,_⟩:=I.tuple hs;obtain⟨xs,e1,e2⟩:=b2z ri;have hT:s.heap.IsTuple p (intItems xs):=by rw[<- e1];exact pl
  have hlt:p<s.heap.objs.size:=by obtain⟨_,e,_⟩:=hT;exact A0n e
  refine call_min_walk (A9f hT ?_)
  refine⟨_,[_,p],[_],_,_,_,_,rfl,Walks.tuple (A:=X.A.in1) (I.ok.hd hc) _ p (A1j hlt) (intItems xs),⟨⟨_,Heap.get?_push_size _ rfl,rfl,rfl⟩,hT.push _⟩,fun c hc'=>?_,
   by simpa[intItems] using c5n e2 hne,CmpOf.ints_lt (numAt xs) (fun _ _=>intItems_at),fun v h' tk hP hk=>?_⟩
  ·show c<(s.heap.push _).objs.size;rw[A5e]
   rcases List.mem_cons.mp hc' with rfl|hc'
   ·exact A3t _
   ·rcases List.mem_cons.mp hc' with rfl|hc'
    ·exact A5x hlt
    ·cases hc'
  ·exact c5q (le:=fun a M=>M<=a) I e2 hne (argBest_lt (numAt xs) (xs.size-1)) q (by simpa[intItems] using hP) (tup_kept hT hk)
end
def tMethD {ι:Type}(CD:ι->Addr)(spm:ι->Sp)(m:Str)(E:XK)(ta:TE)(t:TA):TE:=fun σ H Q=>ta σ H fun x H1=>∃a d dx fs,x=.ref a/\H1 a=some (.ins (CD d) dx fs)/\fs.lookup m=none/\t σ H1 fun vs H2=>spm d (x::vs) H2 Q E
section
variable {X:Cx}{CX:CXT}{j k:Nat}{ι:Type}{CD:ι->Addr}{spm:ι->Sp}{ps:List Str}{E:XK}{m:Str}{pos apos:Pos}{e o:Expr}{es:List Expr}{ta:TE}{t:TA}
theorem c2q {pl:Sem Bool}(hM:∀d,b6y X.prog X.w X.K X.mg X.base CX k (CD d) m ps (spm d))(hr:b4h j X.A)(hx:b7k CX X E)(he:PE X o ta)(ha:PA X (e::es) t)(hk:k<=j:=by decide)
  (hst:starEach (e::es) X.env=(false,eval e X.env)::starEach es X.env:=by rfl) (hpl:(backTo pos (starEach es X.env)).any (·.1)=false:=by rfl)
  (ht:eval (.Call (.Attribute o m apos) (e::es) [] pos) X.env=(do
   let ov <- eval o X.env
   standAt apos.atName
   let (f,first) <- holding [ov] (getMethod ov m pl)
   callWith pos f first (backTo pos (starEach (e::es) X.env)) (backToKw pos (keywordEach [] X.env))):=by rfl) :
  PE X (.Call (.Attribute o m apos) (e::es) [] pos) (tMethD CD spm m E ta t):=by
 intro pins s σ H Q I h;refine A7w (pl:=pl) (thn (he pins s σ H _ I h) fun u s1 ⟨x,H1,I1,rx,a,d,dx,fs,ex,ea,l,q⟩=>?_) ht;subst ex;obtain rfl:u=A1w a:=rx;have M:=hM d;obtain⟨f,fd,hm,F,b⟩:=M.ex;refine d2x I1 ea M.cl hm l ?_;refine A5k (first:=[.ref a]) (h₀:=X.base) I.ok.mod.kin hm.kp (thn (ha pos pins s1 σ H1 _ I1 q) fun us s2 ⟨vs,H2,I2,r,q2⟩=>⟨I2.kIn,?_⟩) hst hpl;exact run_fn (us:=.ref a::us) (vs:=.ref a::vs) (dvs:=[]) F (hr.mono hk) b .nil hx I2 (.cons rfl r) (by rw[A3v];exact q2)
theorem c8e {pl:Sem Bool}(hM:∀d,b6y X.prog X.w X.K X.mg X.base CX k (CD d) m ps (spm d))(hr:b4h j X.A)(hx:b7k CX X E)(he:PE X o ta)(hk:k<=j:=by decide)
  (ht:eval (.Call (.Attribute o m apos) [] [] pos) X.env=(do
   let ov <- eval o X.env
   standAt apos.atName
   let (f,first) <- holding [ov] (getMethod ov m pl)
   callWith pos f first (backTo pos (starEach [] X.env)) (backToKw pos (keywordEach [] X.env))):=by rfl) :
  PE X (.Call (.Attribute o m apos) [] [] pos) (tMethD CD spm m E ta tNil):=by
 intro pins s σ H Q I h;refine A7w (pl:=pl) (thn (he pins s σ H _ I h) fun u s1 ⟨x,H1,I1,rx,a,d,dx,fs,ex,ea,l,q⟩=>?_) ht;subst ex;obtain rfl:u=A1w a:=rx;have M:=hM d;obtain⟨f,fd,hm,F,b⟩:=M.ex;refine d2x I1 ea M.cl hm l ?_;exact PySem.W.callWith_K0 (first:=[.ref a]) I1.kIn hm.kp (run_fn (us:=[.ref a]) (vs:=[.ref a]) (dvs:=[]) F (hr.mono hk) b .nil hx I1 (.cons rfl .nil) q)
end
section
variable {X:Cx}
end
theorem d5e:bootBuiltins "max" = some (.builtin "max"):=by decide +kernel
theorem boot_min:bootBuiltins "min" = some (.builtin "min"):=by decide +kernel
section
variable {K:A0a}{H:Hp}{Q:VK}{σ:St}{D:c1z}{te ta tv:TE}{tA:TA}{f m:Str}{a C dx:Addr}{fs:List (Str×V)}{v:V}
def rFld (K:A0a)(f:Str)(x:V)(H1:Hp)(Q:VK):Prop:=∃a C dx fs v,x=.ref a/\H1 a=some (.ins C dx fs)/\Cls K C/\a6g K C f/\fs.lookup f=some v/\Q v H1
theorem st_fld (h:ta σ H fun x H1=>rFld K f x H1 Q):tFld K ta f σ H Q:=h
theorem a1m (e:H a=some (.ins C dx fs))(c:Cls K C)(n:a6g K C f)(l:fs.lookup f=some v)(q:Q v H):rFld K f (.ref a) H Q:=⟨a,C,dx,fs,v,rfl,e,c,n,l,q⟩
def rPut (K:A0a)(f:Str)(D:c1z)(σ:St)(y x:V)(H2:Hp):Prop:=∃a C dx fs,x=.ref a/\H2 a=some (.ins C dx fs)/\Cls K C/\a6g K C f/\fs.length<1000/\D.nx σ (upd H2 a (.ins C dx (b7h f y fs)))
theorem st_put (h:tv σ H fun y H1=>ta σ H1 fun x H2=>rPut K f D σ y x H2):sFld K ta tv f D σ H:=h
theorem a5n {y:V}(e:H a=some (.ins C dx fs))(c:Cls K C)(n:a6g K C f)(l:fs.length<1000)(q:D.nx σ (upd H a (.ins C dx (b7h f y fs)))):rPut K f D σ y (.ref a) H:=⟨a,C,dx,fs,rfl,e,c,n,l,q⟩
theorem st_make {sp:Sp}{dvs:List V}(h:tA σ H fun vs H1=>∀x dx,H1 x=none->H1 dx=none->dx≠x->sp (.ref x::(vs++dvs)) (upd (upd H1 dx (.own x)) x (.ins C dx [])) (fun v H2=>v=.non/\Q (.ref x) H2) E):tMake C sp dvs E tA σ H Q:=h
def rMeth {ι:Type}(CD:ι->Addr)(m:Str)(x:V)(H1:Hp)(R:ι->Prop):Prop:=∃a d dx fs,x=.ref a/\H1 a=some (.ins (CD d) dx fs)/\fs.lookup m=none/\R d
theorem st_md {ι:Type}{CD:ι->Addr}{spm:ι->Sp}(h:ta σ H fun x H1=>rMeth CD m x H1 fun d=>tA σ H1 fun vs H2=>spm d (x::vs) H2 Q E):tMethD CD spm m E ta tA σ H Q:=h
theorem a4q {ι:Type}{CD:ι->Addr}{R:ι->Prop}{d:ι}(e:H a=some (.ins (CD d) dx fs))(l:fs.lookup m=none)(q:R d):rMeth CD m (.ref a) H R:=⟨a,d,dx,fs,rfl,e,l,q⟩
end
theorem b2u {x:Addr}(hx:H x=none)(hd:H dx=none):a2f H (upd (upd H dx (.own x)) x (.ins C dx [])):=fun b o e=>by
 rw[a0q (a0p e hx),a0q (a0p e hd)];exact e
section
variable {X:Cx}{M:List Str}{pins:List (Addr×Obj)}{σ:St}{H:Hp}{s:Shared}{scope:Scope}{x x2:Str}
end
section
variable {X:Cx}{M:List Str}{scope:Scope}{x x2:Str}{px px2 ptg pos:Pos}{tk:Nat}{elt iter:Expr}{ifs:List Expr}{wi:TI}{tt:TT}{te:TE}
end
def dV:V->PyData
 | .bl b=>.bool b
 | .int i=>.int i
 | .str x=>.str x
 | _=>.none
def okV:V->Bool
 | .non=>true
 | .bl _=>true
 | .int _=>true
 | .str x=>PyData.strOk x
 | _=>false
theorem dv_flat :∀{x:V},okV x=true->DV K H x (dV x)
 | .non,_=>.non
 | .bl b,_=>.bl b
 | .int i,_=>.int i
 | .str x,_=>.str x
theorem dvs_flat {K:A0a}{H:Hp}:∀{xs:List V},xs.all okV=true->DVs K H xs (xs.map dV)
 | [],_=>.nil
 | x::xs,h=>by
  rw[A8e,A3y] at h;exact .cons (dv_flat h.1) (dvs_flat h.2)
theorem dV_lay (h:okV x=true):(dV x).canLay0=true:=by
 cases x<;>first|(simp[dV,A6e];done)|(simp only[dV,A6e];exact h)|cases h
theorem dV_depth (x:V):(dV x).depth=0:=by cases x<;>simp[dV,A7v]
theorem dVs_lay:∀{xs:List V},xs.all okV=true->A5y (xs.map dV)=true
 | [],_=>rfl
 | x::r,h=>by
  rw[A8e,A3y] at h;simp[A5y,dV_lay h.1,dVs_lay h.2]
theorem dVs_depth:∀xs:List V,A4w (xs.map dV)=0
 | []=>rfl
 | x::r=>by simp[A4w,dV_depth x,dVs_depth r]
theorem dV_eqv (x:V):A2q (dV x) (dV x)=true:=by cases x<;>simp[dV,A2q]
theorem dVs_eqv:∀xs:List V,A4a (xs.map dV) (xs.map dV)=true
 | []=>rfl
 | x::r=>by simp[A4a,dV_eqv x,dVs_eqv r]
section
variable {K:A0a}{H:Hp}{Q:VK}{σ:St}{D:c1z}{a b t u:Addr}{xs ys:List V}
theorem st_slT {lo hi:Option Int}(s:SqT K H a xs)(c:¬(HT.sIx xs.length 0 lo=0/\HT.sIx xs.length xs.length hi=xs.length))(h:∀p,H p=none->Q (.ref p) (upd H p (.tup (cutV xs lo hi)))):rSlT K (.ref a) lo hi H Q:=⟨a,xs,rfl,s,c,h⟩
theorem st_bestT {le:Int->Int->Prop}(s:SqT K H a (ns.map V.int))(h0:0<ns.length)(q:∀M,M∈ns->(∀a∈ns,le a M)->Q (.int M) H):rBest K le [.ref a] H Q:=⟨a,ns,rfl,.inr s,h0,q⟩
theorem st_bestL {le:Int->Int->Prop}(s:SqL K H a (ns.map V.int))(h0:0<ns.length)(q:∀M,M∈ns->(∀a∈ns,le a M)->Q (.int M) H):rBest K le [.ref a] H Q:=⟨a,ns,rfl,.inl s,h0,q⟩
theorem st_inTab (h:Tab K a T)(q:Q (.bl (neg != (tabAt k T).isSome)) H):rInTab K neg (.str k) (.ref a) H Q:=⟨k,a,T,rfl,rfl,h,q⟩
theorem st_ixTab (h:Tab K a T)(e:tabAt k T=some i)(q:Q (.int i) H):rIxTab K (.ref a) (.str k) H Q:=⟨k,a,T,i,rfl,rfl,h,e,q⟩
end
section
variable {X:Cx}
theorem op_eqDK (h:X.K=K)(hu:X.A.units+64<cLine):OpR X (compareOp .Eq) (rEqD K):=h▸op_eqD hu
end
theorem ite_t {c A B:Prop} [Decidable c](h:c)(a:A):if decide c=true then A else B:=by
 rw[decide_eq_true h];exact iteT a
theorem ite_f {c A B:Prop} [Decidable c](h:¬c)(b:B):if decide c=true then A else B:=by
 rw[decide_eq_false h];exact iteF b
theorem cut1 (x:V)(xs:List V):cutV (x::xs) (some 1) none=xs:=by
 unfold cutV;rw[HT.sIx_none,show (some (1:Int))=some ((1:Nat):Int) from rfl,HT.sIx_nat];simp
section
variable {K:A0a}{H:Hp}{Q:VK}{a:Addr}{xs:List V}
theorem st_tl (s:SqT K H a (x::xs))(h:∀p,H p=none->Q (.ref p) (upd H p (.tup xs))):rSlT K (.ref a) (some 1) none H Q:=
 st_slT s (fun z=>by rw[show (some (1:Int))=some ((1:Nat):Int) from rfl,HT.sIx_nat] at z;have:=z.1;simp at this) (by rw[cut1];exact h)
end
theorem same_init {x t:Addr}{o o2:HO}(hx:H x=none)(hd:H dx=none)(ht:(upd (upd H dx (.own x)) x (.ins C dx [])) t=none):a2f H (upd (upd (upd (upd H dx (.own x)) x (.ins C dx [])) t o) x o2):=by
 intro b u e;have e2:=b2u (C:=C) hx hd b u e;rw[a0q (a0p e hx),a0q (a0p e2 ht)];exact e2
theorem at0 (x:V)(xs:List V):atI (x::xs) 0=some x:=c2m (j:=0) rfl
theorem at1 (x y:V)(xs:List V):atI (x::y::xs) 1=some y:=c2m (j:=1) rfl
theorem a1u {α:Type}{xs:List α}{i:Nat}{x:α}(e:xs[i]? = some x):xs.take (i+1)=xs.take i++[x]:=by
 rw[B0h,e];rfl
theorem int_get {i:Nat}(e:(is.map V.int)[i]? = some x):∃j,x=.int j:=by
 rw[List.getElem?_map] at e
 cases h:is[i]? with
 | none=>rw[h] at e;cases e
 | some j=>rw[h] at e;exact⟨j,(A0j e).symm⟩
theorem d5b (n:Nat):(A4b n true).all id=true:=by simp
theorem len1 (h:is.length=1):∃i,is=[i]:=by
 match is,h with
 | [i],_=>exact⟨i,rfl⟩
theorem len2 (h:is.length=2):∃i j,is=[i,j]:=by
 match is,h with
 | [i,j],_=>exact⟨i,j,rfl⟩
section
variable {K:A0a}{a:Addr}{xs:List V}{tl te:TE}{tt:TT}{Q:VK}{σ:St}{H:Hp}
end
section
variable {H:Hp}{Q:VK}{n m:Nat}{p q:Bool}
theorem st_xorNB (h:Q (.int ((n^^^p.toNat:Nat):Int)) H):rI0 (fun i j=>.int (A6c i j)) (.int (n:Int)) (.int (Tw.bI p)) H Q:=d1z (by
 rw[Tw.d3b,c2c];exact h)
theorem st_xorBB (h:Q (.int (Tw.bI (p ^^ q))) H):rI0 (fun i j=>.int (A6c i j)) (.int (Tw.bI p)) (.int (Tw.bI q)) H Q:=d1z (by
 rw[Tw.d3b,Tw.d3b,c2c];have e:((p.toNat^^^q.toNat:Nat):Int)=Tw.bI (p ^^ q):=by cases p<;>cases q<;>rfl
 rw[e];exact h)
theorem st_sub1B (h:Q (.int (Tw.bI (!q))) H):rI0 (fun i j=>.int (i-j)) (.int 1) (.int (Tw.bI q)) H Q:=d1z (by
 have e:(1:Int)-Tw.bI q=Tw.bI (!q):=by cases q<;>rfl
 rw[e];exact h)
end
end L2
namespace Tw
open PySem L2
inductive DK where
 | over|quarter|back|both|wher|swap
 deriving DecidableEq
def DK.word:DK->Str
 | .over=>"over" | .quarter=>"quarter" | .back=>"back" | .both=>"both" | .wher=>"where" | .swap=>"swap"
def DK.undo:DK->Str
 | .over=>"over" | .quarter=>"back" | .back=>"quarter" | .both=>"both" | .wher=>"where" | .swap=>"swap"
def DK.n:DK->Nat
 | .over=>1|.quarter=>1|.back=>1|.both=>1|.wher=>2|.swap=>2
def DK.inv:DK->DK
 | .quarter=>.back|.back=>.quarter|k=>k
def tabW:List (Str×Int):=[("over",1),("quarter",1),("back",1),("both",1),("where",2),("swap",2)]
theorem tab_word (k:DK):tabAt k.word tabW=some (k.n:Int):=by cases k<;>decide +kernel
theorem DK.n_pos (k:DK):0<k.n/\k.n<=2:=by cases k<;>decide
def vn (l:List Nat):List V:=l.map fun k=>V.int ((k:Nat):Int)
theorem d3t (l:List Nat):vn l=(l.map fun k:Nat=>(k:Int)).map V.int:=by unfold vn;rw[A3q];rfl
theorem c8d (l:List Nat):(vn l).length=l.length:=by unfold vn;rw[A0c]
structure Dd where
 k:DK
 w:List Nat
structure Dd.Ok (d:Dd)(n:Nat):Prop where
 len:d.w.length=d.k.n
 lt:∀x∈d.w,x<n
 nd:d.w.Nodup
def flds (k:DK)(t:Addr):List (Str×V):=[("word",.str k.word),("undoer",.str k.undo),("at",.ref t)]
theorem a5a (k:DK)(t:Addr):(flds k t).lookup ("at":Str)=some (.ref t):=by
 unfold flds;rw[A1n,show (("at":Str) == "word")=false by decide +kernel];show A3j ("at":Str) [(("undoer":Str),V.str k.undo),("at",.ref t)]=_;rw[A1n,show (("at":Str) == "undoer")=false by decide +kernel];rfl
theorem flds_no (k:DK)(t:Addr){m:Str}(h1:(m == "word")=false)(h2:(m == "undoer")=false)(h3:(m == "at")=false):(flds k t).lookup m=none:=by
 unfold flds;rw[A1n,h1];show A3j m [(("undoer":Str),V.str k.undo),("at",.ref t)]=_;rw[A1n,h2];show A3j m [(("at":Str),V.ref t)]=_;rw[A1n,h3];rfl
theorem flds_put (w u:Str)(t:Addr):b7h "at" (.ref t) (b7h "undoer" (.str u) (b7h "word" (.str w) []))=([("word",.str w),("undoer",.str u),("at",.ref t)]:List (Str×V)):=by
 have h1:¬(("word":Str) = "undoer"):=by decide +kernel
 have h2:¬(("word":Str) = "at"):=by decide +kernel
 have h3:¬(("undoer":Str) = "at"):=by decide +kernel
 simp only[b7h,if_neg h1,if_neg h2,if_neg h3]
def DdAt (CD:DK->Addr)(H:Hp)(a:Addr)(d:Dd):Prop:=∃dx t,H a=some (.ins (CD d.k) dx (flds d.k t))/\H t=some (.tup (vn d.w))/\d.w.length=d.k.n
theorem DdAt.same {CD:DK->Addr}{H H':Hp}{a:Addr}{d:Dd}(h:DdAt CD H a d)(s:a2f H H'):DdAt CD H' a d:=by
 obtain⟨dx,t,h1,h2,h3⟩:=h;exact⟨dx,t,s _ _ h1,s _ _ h2,h3⟩
def WdAt (H:Hp)(a:Addr)(k:DK)(is:List Int):Prop:=H a=some (.tup (.str k.word::is.map V.int))/\is.length=k.n/\is.Nodup
def WN (K:A0a)(H:Hp)(v:V)(b:Bool):Prop:=∃t b1 b2,b8x K H v t/\A3u K t (.type "int")=some b1/\A3u K t (.type "bool")=some b2/\b=(b1 && !b2)
theorem WN.int (K:A0a)(H:Hp)(i:Int):WN K H (.int i) true:=⟨_,true,false,.int i,d0g,c3c,rfl⟩
def b1j (K:A0a):Sp:=fun vs H Q _=>∃v b,vs=[v]/\WN K H v b/\Q (.bl b) H
def a8z (K:A0a)(CD:DK->Addr):Sp:=fun vs H Q _=>∃p w u t,vs=[.ref p,.str w,.str u,.ref t]/\∃k dx,H p=some (.ins (CD k) dx [])/\Q .non (upd H p (.ins (CD k) dx [("word",.str w),("undoer",.str u),("at",.ref t)]))
def b9r (K:A0a)(CD:DK->Addr)(k:DK):Sp:=fun vs H Q _=>∃(p:Addr) (j:Nat),vs=[.ref p,.int j]/\∃dx,H p=some (.ins (CD k) dx [])/\∀t,H t=none->Q .non (upd (upd H t (.tup (vn [j]))) p (.ins (CD k) dx (flds k t)))
def d6r (K:A0a)(CD:DK->Addr)(k:DK):Sp:=fun vs H Q _=>∃(p:Addr) (j i:Nat),vs=[.ref p,.int j,.int i]/\∃dx,H p=some (.ins (CD k) dx [])/\∀t,H t=none->Q .non (upd (upd H t (.tup (vn [j,i]))) p (.ins (CD k) dx (flds k t)))
abbrev a8y (K:A0a)(CD:DK->Addr):Sp:=b9r K CD .over
abbrev a6b (K:A0a)(CD:DK->Addr):Sp:=b9r K CD .quarter
abbrev a8x (K:A0a)(CD:DK->Addr):Sp:=b9r K CD .back
abbrev a8u (K:A0a)(CD:DK->Addr):Sp:=b9r K CD .both
abbrev a7s (K:A0a)(CD:DK->Addr):Sp:=d6r K CD .wher
abbrev a8t (K:A0a)(CD:DK->Addr):Sp:=d6r K CD .swap
def c0d (K:A0a)(CD:DK->Addr):Sp:=fun vs H Q _=>∃a d,vs=[.ref a]/\DdAt CD H a d/\∀p,H p=none->Q (.ref p) (upd H p (.lst (vn d.w)))
abbrev d2h (K:A0a)(CD:DK->Addr)(_:DK):Sp:=c0d K CD
structure Row where
 m:Nat
 x:Nat
 z:Nat
def Row.V (r:Row):List V:=[.int (r.m:Nat),.int (r.x:Nat),.int (r.z:Nat)]
structure Row.Ok (r:Row)(n:Nat):Prop where
 m:r.m<=1
 x:r.x<2^n
 z:r.z<2^n
def ex (n i j:Nat):Nat:=n^^^(n.testBit i ^^ n.testBit j).toNat*2^i^^^(n.testBit i ^^ n.testBit j).toNat*2^j
def b0z (k:DK)(i j:Nat)(r:Row):Row:=
 match k with
 | .over=>⟨r.m^^^(r.z.testBit i).toNat,r.x,r.z⟩
 | .quarter=>⟨r.m^^^(r.x.testBit i&&r.z.testBit i).toNat,r.x,r.z^^^(r.x.testBit i).toNat*2^i⟩
 | .back=>⟨r.m^^^(r.x.testBit i && !r.z.testBit i).toNat,r.x,r.z^^^(r.x.testBit i).toNat*2^i⟩
 | .both=>⟨r.m^^^(r.x.testBit i&&r.z.testBit i).toNat,r.x^^^(r.x.testBit i ^^ r.z.testBit i).toNat*2^i,r.z^^^(r.x.testBit i ^^ r.z.testBit i).toNat*2^i⟩
 | .wher=>⟨r.m^^^(r.x.testBit i&&r.z.testBit j && !(r.z.testBit i ^^ r.x.testBit j)).toNat,r.x^^^(r.x.testBit i).toNat*2^j,r.z^^^(r.z.testBit j).toNat*2^i⟩
 | .swap=>⟨r.m,ex r.x i j,ex r.z i j⟩
def act (d:Dd)(r:Row):Row:=b0z d.k (d.w.getD 0 0) (d.w.getD 1 0) r
def b8y (K:A0a):Sp:=fun vs H Q _=>∃n k:Nat,vs=[.int n,.int k]/\Q (.int (bI (n.testBit k))) H
def b1x (K:A0a):Sp:=fun vs H Q _=>∃n i j:Nat,vs=[.int n,.int i,.int j]/\i<=1000/\j<=1000/\Q (.int (ex n i j:Nat)) H
def b3m (K:A0a)(CD:DK->Addr)(k:DK):Sp:=fun vs H Q _=>∃(a b:Addr) (d:Dd) (r:Row),vs=[.ref a,.ref b]/\d.k=k/\DdAt CD H a d/\(∀x∈d.w,x<=1000)/\SqT K H b r.V/\∀p H',a2f H H'->H' p=some (.tup (act d r).V)->Q (.ref p) H'
abbrev c8h (K:A0a)(CD:DK->Addr)(k:DK):Sp:=b3m K CD k
abbrev d0y (K:A0a)(CD:DK->Addr):Sp:=b3m K CD .over
abbrev c2j (K:A0a)(CD:DK->Addr):Sp:=b3m K CD .quarter
abbrev d1q (K:A0a)(CD:DK->Addr):Sp:=b3m K CD .back
abbrev d2a (K:A0a)(CD:DK->Addr):Sp:=b3m K CD .both
abbrev c9s (K:A0a)(CD:DK->Addr):Sp:=b3m K CD .wher
abbrev d1c (K:A0a)(CD:DK->Addr):Sp:=b3m K CD .swap
theorem a9r {w:List Nat}(h:w.length=1):∃i,w=[i]:=by
 match w,h with
 | [i],_=>exact⟨i,rfl⟩
theorem b5c {w:List Nat}(h:w.length=2):∃i j,w=[i,j]:=by
 match w,h with
 | [i,j],_=>exact⟨i,j,rfl⟩
end Tw
namespace Tw
variable {a b i j m:Nat}
theorem a3z (b:Bool)(i k:Nat):(b.toNat*2^i).testBit k=(decide (i=k)&&b):=by
 cases b with
 | false=>simp
 | true=>simp[A2j]
theorem b7f {f g:Nat->Bool}{k:Nat}:∀{n:Nat},k<n->(∀i,i<n->i≠k->f i=g i)->cnt f n+(g k).toNat=cnt g n+(f k).toNat
 | n+1,hk,h=>by
  rw[cnt,cnt]
  by_cases e:k=n
  ·subst e;have:=a8f (p:=f) (q:=g) (k:=k) fun i hi=>h i (by omega) (by omega);omega
  ·have:=b7f (f:=f) (g:=g) (k:=k) (n:=n) (by omega) fun i hi hn=>h i (by omega) hn;rw[h n (by omega) (A1e e)];omega
theorem d5x {f g:Nat->Bool}{n:Nat}(hi:i<n)(hj:j<n)(hij:i≠j)(h:∀k,k<n->k≠i->k≠j->f k=g k):cnt f n+(g i).toNat+(g j).toNat=cnt g n+(f i).toNat+(f j).toNat:=by
 have h1:=b7f (f:=f) (g:=fun k=>if k=i then g i else f k) hi fun k _ hk=>by simp[hk]
 have h2:=b7f (f:=fun k=>if k=i then g i else f k) (g:=g) hj fun k hk1 hk=>by
  by_cases e:k=i
  ·simp[e]
  ·simp only[e,if_false];exact h k hk1 e hk
 simp only[if_true] at h1;simp only[A1e hij,if_false] at h2;omega
def a2q (q:Nat)(p:Int×Int):Int×Int:=
 if q%4=0 then p else if q%4=1 then (-p.2,p.1) else if q%4=2 then (-p.1,-p.2) else (p.2,-p.1)
theorem a2m (h:a%4=b%4)(p:Int×Int):a2q a p=a2q b p:=by unfold a2q;rw[h]
theorem a2v (a b:Nat)(p:Int×Int):a2q a (a2q b p)=a2q (a+b) p:=by
 have ha:a%4<4:=A7p _ (by decide);have hb:b%4<4:=A7p _ (by decide);obtain⟨x,y⟩:=p;have e:(a+b)%4=(a%4+b%4)%4:=Nat.add_mod _ _ _;unfold a2q;rw[e]
 revert ha hb
 generalize a%4=u;generalize b%4=v;intro ha hb
 match u,v,ha,hb with
 | 0,0,_,_=>rfl
 | 0,1,_,_=>rfl
 | 0,2,_,_=>rfl
 | 0,3,_,_=>rfl
 | 1,0,_,_=>rfl
 | 1,1,_,_=>simp
 | 1,2,_,_=>simp
 | 1,3,_,_=>simp
 | 2,0,_,_=>rfl
 | 2,1,_,_=>simp
 | 2,2,_,_=>simp
 | 2,3,_,_=>simp
 | 3,0,_,_=>rfl
 | 3,1,_,_=>simp
 | 3,2,_,_=>simp
 | 3,3,_,_=>simp
def qq (r:Row)(b n:Nat):Nat:=2*r.m+2*cnt (fun i=>r.z.testBit i&&b.testBit i) n+cnt (fun i=>r.x.testBit i&&r.z.testBit i) n
def rowE (r:Row)(n:Nat)(e:Nat×Int×Int):Nat×Int×Int:=(e.1^^^r.x,a2q (qq r e.1 n) e.2)
def clr (b i:Nat):Nat:=b-(b.testBit i).toNat*2^i
def a6c (k:DK)(i j:Nat)(e:Nat×Int×Int):List (Nat×Int×Int):=
 match k with
 | .over=>[(e.1^^^2^i,e.2)]
 | .quarter=>[(e.1,a2q (e.1.testBit i).toNat e.2)]
 | .back=>[(e.1,a2q (3*(e.1.testBit i).toNat) e.2)]
 | .both=>[(clr e.1 i,e.2),(clr e.1 i+2^i,a2q (2*(e.1.testBit i).toNat) e.2)]
 | .wher=>[(e.1^^^(e.1.testBit i).toNat*2^j,e.2)]
 | .swap=>[(clr (clr e.1 i) j+(e.1.testBit j).toNat*2^i+(e.1.testBit i).toNat*2^j,e.2)]
theorem add_xor {t:Nat}(h:a&&&t=0):a+t=a^^^t:=by
 have h1:=c2g a t;have h2:=b3r a t;omega
theorem clr_xor (b i:Nat):clr b i=b^^^(b.testBit i).toNat*2^i:=by
 have h:(b^^^(b.testBit i).toNat*2^i)&&&((b.testBit i).toNat*2^i)=0:=by
  apply A0p;intro k;rw[A2f,A0e,a3z,A3z]
  by_cases e:i=k
  ·subst e;cases b.testBit i<;>simp
  ·simp[e]
 have h2:=add_xor h;rw[A0q,A1g,A1c] at h2;unfold clr;omega
theorem b4v (b i k:Nat):(clr b i).testBit k=(!decide (i=k)&&b.testBit k):=by
 rw[clr_xor,A0e,a3z]
 by_cases e:i=k
 ·subst e;cases b.testBit i<;>simp
 ·simp[e]
theorem d4f {b:Bool}(h:a.testBit i=false):a+b.toNat*2^i=a^^^b.toNat*2^i:=by
 apply add_xor;apply A0p;intro k;rw[A2f,a3z,A3z]
 by_cases e:i=k
 ·subst e;simp[h]
 ·simp[e]
theorem set_xor (b i:Nat):clr b i+2^i=clr b i^^^2^i:=by
 have h:=d4f (a:=clr b i) (i:=i) (b:=true) (by rw[b4v];simp)
 simpa using h
theorem c5w (hij:i≠j):clr (clr b i) j+(b.testBit j).toNat*2^i+(b.testBit i).toNat*2^j=ex b i j:=by
 have h1:=d4f (a:=clr (clr b i) j) (i:=i) (b:=b.testBit j) (by rw[b4v,b4v];simp);rw[h1];have h2:=d4f (a:=clr (clr b i) j^^^(b.testBit j).toNat*2^i) (i:=j) (b:=b.testBit i) (by rw[A0e,b4v,a3z];simp[hij]);rw[h2];unfold ex;apply A0p;intro k;simp only[A0e,b4v,a3z]
 by_cases e:i=k
 ·subst e;simp only[A1e hij,decide_true,decide_false,A2x,A2d,A6g,A6y,A2u];cases b.testBit i<;>cases b.testBit j<;>rfl
 ·by_cases e2:j=k
  ·subst e2;simp only[e,decide_true,decide_false,A2x,A2d,A6g,A6y,A2u];cases b.testBit i<;>cases b.testBit j<;>rfl
  ·simp[e,e2]
theorem ex_tb {k:Nat}(hij:i≠j):(ex b i j).testBit k=if k=i then b.testBit j else if k=j then b.testBit i else b.testBit k:=by
 unfold ex;simp only[A0e,a3z]
 by_cases e:k=i
 ·subst e;simp only[A1e hij,decide_true,decide_false,A2x,A2d,A2u,if_true];cases b.testBit k<;>cases b.testBit j<;>rfl
 ·by_cases e2:k=j
  ·subst e2;simp only[e,A1e e,decide_true,decide_false,A2x,A2d,A2u,if_true,if_false];cases b.testBit k<;>cases b.testBit i<;>rfl
  ·simp[e,e2,A1e e,A1e e2]
theorem m_xor (h:m<=1)(b:Bool):m^^^b.toNat=if b then 1-m else m:=by
 match m,h with
 | 0,_=>cases b<;>rfl
 | 1,_=>cases b<;>rfl
theorem d3p {c:Nat}{p q:Int×Int}(h1:a=c)(h2:p=q):(a,p)=(c,q):=by rw[h1,h2]
theorem xor_rc (a b c:Nat):a^^^b^^^c=a^^^c^^^b:=by rw[A0q,A4m b c,<- A0q]
theorem tb_pow (i k:Nat):(2^i).testBit k=decide (i=k):=by simp[A2j]
section
variable {i j n b:Nat}{r:Row}
theorem q4 {A B C D x1 y1 x2 y2 u v:Nat}{s:Bool}(hm:m<=1)(h:A+x1=B+y1)(h2:C+x2=D+y2)(hc:(2*s.toNat+2*y1+2*x1+y2+3*x2+v)%4=u%4):(2*m+2*B+D+u)%4=((2*if s=true then 1-m else m)+2*A+C+v)%4:=by
 have e:(2*if s=true then 1-m else m)%4=(2*m+2*s.toNat)%4:=by
  cases s
  ·rfl
  ·rcases A7e.1 hm with rfl|rfl<;>rfl
 generalize (2*if s=true then 1-m else m)=w at e ⊢;generalize s.toNat=t at e hc;clear hm;omega
theorem ph_over (ok:r.Ok n)(hi:i<n):qq r b n%4=qq (b0z .over i j r) (b^^^2^i) n%4:=by
 have h:=b7f (f:=fun k=>r.z.testBit k&&(b^^^2^i).testBit k) (g:=fun k=>r.z.testBit k&&b.testBit k) hi fun k _ hk=>by
  simp only[A0e,tb_pow];simp[A1e hk]
 unfold qq b0z;dsimp only at h ⊢;rw[m_xor ok.m];have hm:=ok.m;generalize cnt (fun k=>r.z.testBit k&&(b^^^2^i).testBit k) n=A at h ⊢;generalize cnt (fun k=>r.z.testBit k&&b.testBit k) n=B at h ⊢;generalize cnt (fun k=>r.x.testBit k&&r.z.testBit k) n=C at h ⊢;simp only[A0e,tb_pow,decide_true] at h;clear ok;generalize r.z.testBit i=v0 at h ⊢;generalize b.testBit i=v1 at h ⊢;exact q4 (x2:=0) (y2:=0) (u:=0) (v:=0) hm h (rfl:C+0=C+0) (by cases v0<;>cases v1<;>rfl)
theorem ph_q (ok:r.Ok n)(hi:i<n):(((b^^^r.x).testBit i).toNat+qq r b n)%4=(qq (b0z .quarter i j r) b n+(b.testBit i).toNat)%4:=by
 have h:=b7f (f:=fun k=>(r.z^^^(r.x.testBit i).toNat*2^i).testBit k&&b.testBit k) (g:=fun k=>r.z.testBit k&&b.testBit k) hi fun k _ hk=>by
  simp only[A0e,a3z];simp[A1e hk]
 have h2:=b7f (f:=fun k=>r.x.testBit k&&(r.z^^^(r.x.testBit i).toNat*2^i).testBit k) (g:=fun k=>r.x.testBit k&&r.z.testBit k) hi fun k _ hk=>by
  simp only[A0e,a3z];simp[A1e hk]
 unfold qq b0z;dsimp only at h h2 ⊢;rw[m_xor ok.m];have hm:=ok.m;clear ok;generalize cnt (fun k=>(r.z^^^(r.x.testBit i).toNat*2^i).testBit k&&b.testBit k) n=A at h h2 ⊢;generalize cnt (fun k=>r.z.testBit k&&b.testBit k) n=B at h h2 ⊢;generalize cnt (fun k=>r.x.testBit k&&(r.z^^^(r.x.testBit i).toNat*2^i).testBit k) n=C at h h2 ⊢;generalize cnt (fun k=>r.x.testBit k&&r.z.testBit k) n=D at h h2 ⊢;simp only[A0e,a3z,decide_true,A2d] at h h2 ⊢;generalize r.z.testBit i=v0 at h h2 ⊢;generalize b.testBit i=v1 at h h2 ⊢;generalize r.x.testBit i=v2 at h h2 ⊢;exact(congrArg (· % 4) (Nat.add_comm _ _)).trans (q4 hm h h2 (by cases v0<;>cases v1<;>cases v2<;>rfl))
theorem ph_b (ok:r.Ok n)(hi:i<n):(3*((b^^^r.x).testBit i).toNat+qq r b n)%4=(qq (b0z .back i j r) b n+3*(b.testBit i).toNat)%4:=by
 have h:=b7f (f:=fun k=>(r.z^^^(r.x.testBit i).toNat*2^i).testBit k&&b.testBit k) (g:=fun k=>r.z.testBit k&&b.testBit k) hi fun k _ hk=>by
  simp only[A0e,a3z];simp[A1e hk]
 have h2:=b7f (f:=fun k=>r.x.testBit k&&(r.z^^^(r.x.testBit i).toNat*2^i).testBit k) (g:=fun k=>r.x.testBit k&&r.z.testBit k) hi fun k _ hk=>by
  simp only[A0e,a3z];simp[A1e hk]
 unfold qq b0z;dsimp only at h h2 ⊢;rw[m_xor ok.m];have hm:=ok.m;clear ok;generalize cnt (fun k=>(r.z^^^(r.x.testBit i).toNat*2^i).testBit k&&b.testBit k) n=A at h h2 ⊢;generalize cnt (fun k=>r.z.testBit k&&b.testBit k) n=B at h h2 ⊢;generalize cnt (fun k=>r.x.testBit k&&(r.z^^^(r.x.testBit i).toNat*2^i).testBit k) n=C at h h2 ⊢;generalize cnt (fun k=>r.x.testBit k&&r.z.testBit k) n=D at h h2 ⊢;simp only[A0e,a3z,decide_true,A2d] at h h2 ⊢;generalize r.z.testBit i=v0 at h h2 ⊢;generalize b.testBit i=v1 at h h2 ⊢;generalize r.x.testBit i=v2 at h h2 ⊢;exact(congrArg (· % 4) (Nat.add_comm _ _)).trans (q4 hm h h2 (by cases v0<;>cases v1<;>cases v2<;>rfl))
theorem ph_h (ok:r.Ok n)(hi:i<n)(c:Bool):∀B:Nat,(∀k,B.testBit k=if k=i then c else b.testBit k)->
  (qq (b0z .both i j r) B n+2*(r.z.testBit i&&b.testBit i).toNat)%4=(qq r b n+2*(r.x.testBit i&&c).toNat+2*(r.x.testBit i&&r.z.testBit i).toNat)%4:=by
 intro B hB
 have h:=b7f (f:=fun k=>(r.z^^^(r.x.testBit i ^^ r.z.testBit i).toNat*2^i).testBit k&&B.testBit k) (g:=fun k=>r.z.testBit k&&b.testBit k) hi fun k _ hk=>by
  simp only[A0e,a3z,hB];simp[A1e hk,hk]
 have h2:=b7f (f:=fun k=>(r.x^^^(r.x.testBit i ^^ r.z.testBit i).toNat*2^i).testBit k&&(r.z^^^(r.x.testBit i ^^ r.z.testBit i).toNat*2^i).testBit k) (g:=fun k=>r.x.testBit k&&r.z.testBit k) hi fun k _ hk=>by
  simp only[A0e,a3z];simp[A1e hk]
 unfold qq b0z;dsimp only at h h2 ⊢;rw[m_xor ok.m];have hm:=ok.m;clear ok;generalize cnt (fun k=>(r.z^^^(r.x.testBit i ^^ r.z.testBit i).toNat*2^i).testBit k&&B.testBit k) n=A at h h2 ⊢;generalize cnt (fun k=>r.z.testBit k&&b.testBit k) n=B1 at h h2 ⊢;generalize cnt (fun k=>(r.x^^^(r.x.testBit i ^^ r.z.testBit i).toNat*2^i).testBit k&&(r.z^^^(r.x.testBit i ^^ r.z.testBit i).toNat*2^i).testBit k) n=C at h h2 ⊢;generalize cnt (fun k=>r.x.testBit k&&r.z.testBit k) n=D at h h2 ⊢;simp only[A0e,a3z,decide_true,A2d,hB,if_true] at h h2 ⊢;clear hB;generalize r.z.testBit i=v0 at h h2 ⊢;generalize b.testBit i=v1 at h h2 ⊢;generalize r.x.testBit i=v2 at h h2 ⊢;exact(q4 (u:=2*(v2&&c).toNat+2*(v2&&v0).toNat) hm h h2 (by cases v0<;>cases v1<;>cases v2<;>cases c<;>rfl)).symm.trans (congrArg (· % 4) (B2x _ _ _).symm)
theorem ph_w (ok:r.Ok n)(hi:i<n)(hj:j<n)(hij:i≠j):qq r b n%4=qq (b0z .wher i j r) (b^^^(b.testBit i).toNat*2^j) n%4:=by
 have h:=d5x (f:=fun k=>(r.z^^^(r.z.testBit j).toNat*2^i).testBit k&&(b^^^(b.testBit i).toNat*2^j).testBit k) (g:=fun k=>r.z.testBit k&&b.testBit k) hi hj hij fun k _ hk hk2=>by
  simp only[A0e,a3z];simp[A1e hk,A1e hk2]
 have h2:=d5x (f:=fun k=>(r.x^^^(r.x.testBit i).toNat*2^j).testBit k&&(r.z^^^(r.z.testBit j).toNat*2^i).testBit k) (g:=fun k=>r.x.testBit k&&r.z.testBit k) hi hj hij fun k _ hk hk2=>by
  simp only[A0e,a3z];simp[A1e hk,A1e hk2]
 unfold qq b0z;dsimp only at h h2 ⊢;rw[m_xor ok.m];have hm:=ok.m;clear ok;generalize cnt (fun k=>(r.z^^^(r.z.testBit j).toNat*2^i).testBit k&&(b^^^(b.testBit i).toNat*2^j).testBit k) n=A at h h2 ⊢;generalize cnt (fun k=>r.z.testBit k&&b.testBit k) n=B1 at h h2 ⊢;generalize cnt (fun k=>(r.x^^^(r.x.testBit i).toNat*2^j).testBit k&&(r.z^^^(r.z.testBit j).toNat*2^i).testBit k) n=C at h h2 ⊢;generalize cnt (fun k=>r.x.testBit k&&r.z.testBit k) n=D at h h2 ⊢;simp only[A0e,a3z,decide_true,A2d,hij,A1e hij,decide_false,A2x,A2u] at h h2 ⊢;clear hij;generalize r.z.testBit i=v0 at h h2 ⊢;generalize b.testBit i=v1 at h h2 ⊢;generalize r.x.testBit i=v2 at h h2 ⊢;generalize r.z.testBit j=v3 at h h2 ⊢;generalize b.testBit j=v4 at h h2 ⊢;generalize r.x.testBit j=v5 at h h2 ⊢;rw[B2x,B2x] at h h2;exact q4 (u:=0) (v:=0) hm h h2 (by cases v0<;>cases v1<;>cases v2<;>cases v3<;>cases v4<;>cases v5<;>rfl)
theorem ph_s (hi:i<n)(hj:j<n)(hij:i≠j):qq r b n=qq (b0z .swap i j r) (ex b i j) n:=by
 have h:=d5x (f:=fun k=>(ex r.z i j).testBit k&&(ex b i j).testBit k) (g:=fun k=>r.z.testBit k&&b.testBit k) hi hj hij fun k _ hk hk2=>by
  simp only[ex_tb hij,hk,hk2,if_false]
 have h2:=d5x (f:=fun k=>(ex r.x i j).testBit k&&(ex r.z i j).testBit k) (g:=fun k=>r.x.testBit k&&r.z.testBit k) hi hj hij fun k _ hk hk2=>by
  simp only[ex_tb hij,hk,hk2,if_false]
 unfold qq b0z;dsimp only at h h2 ⊢;generalize cnt (fun k=>(ex r.z i j).testBit k&&(ex b i j).testBit k) n=A at h h2 ⊢;generalize cnt (fun k=>(ex r.x i j).testBit k&&(ex r.z i j).testBit k) n=C at h h2 ⊢;simp only[ex_tb hij,A1e hij,if_true,if_false] at h h2;omega
theorem core {k:DK}(ok:r.Ok n)(hi:i<n)(hj:k.n=2->j<n/\i≠j)(p:Int×Int) :
  a6c k i j (rowE r n (b,p))=(a6c k i j (b,p)).map (rowE (b0z k i j r) n)\/a6c k i j (rowE r n (b,p))=((a6c k i j (b,p)).map (rowE (b0z k i j r) n)).reverse:=by
 cases k with
 | over=>
  left
  simp only[a6c,rowE,A0m,A5a];rw[d3p (xor_rc b r.x (2^i)) (a2m (ph_over (j:=j) ok hi) p)];rfl
 | quarter=>
  left
  simp only[a6c,rowE,A0m,A5a,a2v];rw[d3p (rfl:b^^^r.x=b^^^r.x) (a2m (ph_q (j:=j) ok hi) p)];rfl
 | back=>
  left
  simp only[a6c,rowE,A0m,A5a,a2v];rw[d3p (rfl:b^^^r.x=b^^^r.x) (a2m (ph_b (j:=j) ok hi) p)];rfl
 | wher=>
  left
  obtain⟨hj1,hij⟩:=hj rfl;simp only[a6c,rowE,A0m,A5a];refine congrArg (fun x=>[x]) (d3p ?_ (a2m (ph_w ok hi hj1 hij) p));unfold b0z;dsimp only;apply A0p;intro q;simp only[A0e,a3z]
  by_cases e:j=q
  ·subst e;simp only[decide_true,A2d];cases b.testBit i<;>cases r.x.testBit i<;>cases b.testBit j<;>cases r.x.testBit j<;>rfl
  ·simp[e]
 | swap=>
  left
  obtain⟨hj1,hij⟩:=hj rfl;simp only[a6c,rowE,A0m,A5a,c5w hij];refine congrArg (fun x=>[x]) (d3p ?_ (by rw[ph_s hi hj1 hij]));unfold b0z;dsimp only;apply A0p;intro q;simp only[A0e,ex_tb hij]
  by_cases e:q=i
  ·simp[e]
  ·by_cases e2:q=j
   ·subst e2;simp[A1e hij]
   ·simp[e,e2]
 | both=>
  have t0:∀q,(clr b i).testBit q=if q=i then false else b.testBit q:=fun q=>by
   rw[b4v]
   by_cases e:q=i
   ·simp[e]
   ·simp[e,A1e e]
  have t1:∀q,(clr b i+2^i).testBit q=if q=i then true else b.testBit q:=fun q=>by
   rw[set_xor,A0e,b4v,tb_pow]
   by_cases e:q=i
   ·simp[e]
   ·simp[e,A1e e]
  have p0:=ph_h (j:=j) ok hi false (clr b i) t0;have p1:=ph_h (j:=j) ok hi true (clr b i+2^i) t1
  have k0:∀c:Bool,∀B:Nat,(∀q,B.testBit q=if q=i then c else b.testBit q)->∀q,(B^^^(r.x^^^(r.x.testBit i ^^ r.z.testBit i).toNat*2^i)).testBit q=if q=i then (c ^^ r.z.testBit i) else (b^^^r.x).testBit q:=fun c B hB q=>by
   simp only[A0e,a3z,hB]
   by_cases e:q=i
   ·subst e;simp only[if_true,decide_true,A2d];cases c<;>cases r.x.testBit q<;>cases r.z.testBit q<;>rfl
   ·simp[e,A1e e]
  have l0:∀q,(clr (b^^^r.x) i).testBit q=if q=i then false else (b^^^r.x).testBit q:=fun q=>by
   rw[b4v]
   by_cases e:q=i
   ·simp[e]
   ·simp[e,A1e e]
  have l1:∀q,(clr (b^^^r.x) i+2^i).testBit q=if q=i then true else (b^^^r.x).testBit q:=fun q=>by
   rw[set_xor,A0e,b4v,tb_pow]
   by_cases e:q=i
   ·simp[e]
   ·simp[e,A1e e]
  have keq:∀(c:Bool) (B:Nat),(∀q,B.testBit q=if q=i then c else b.testBit q)->∀(L:Nat) (d:Bool),(∀q,L.testBit q=if q=i then d else (b^^^r.x).testBit q)->d=(c ^^ r.z.testBit i)->L=B^^^(b0z .both i j r).x:=fun c B hB L d hL hd=>by
   apply A0p;intro q;rw[hL,show (b0z .both i j r).x=r.x^^^(r.x.testBit i ^^ r.z.testBit i).toNat*2^i from rfl,k0 c B hB,hd]
  simp only[a6c,rowE,A0m,A5a,a2v,A5z,List.reverse_nil,A6z,List.singleton_append]
  cases hz:r.z.testBit i with
  | false=>
   left
   rw[hz] at p0 p1;refine congr (congrArg List.cons (d3p (keq false _ t0 _ false l0 (by rw[hz];rfl)) (a2m ?_ p))) (congrArg (fun x=>[x]) (d3p (keq true _ t1 _ true l1 (by rw[hz];rfl)) (a2m ?_ p)))
   ·simp only[A2x,A6f,A6n] at p0;omega
   ·simp only[A0e,A2x,A6f,A7a,A6n] at p1 ⊢
    revert p1
    generalize qq (b0z .both i j r) (clr b i+2^i) n=A;generalize qq r b n=B;cases b.testBit i<;>cases r.x.testBit i<;>simp only[A4x,A6n,Bool.false_xor,Bool.true_xor,A6y,A6g,A2u]<;>intro p1<;>omega
  | true=>
   right
   rw[hz] at p0 p1;refine congr (congrArg List.cons (d3p (keq true _ t1 _ false l0 (by rw[hz];rfl)) (a2m ?_ p))) (congrArg (fun x=>[x]) (d3p (keq false _ t0 _ true l1 (by rw[hz];rfl)) (a2m ?_ p)))
   ·simp only[A2d,A7a] at p1
    revert p1
    generalize qq (b0z .both i j r) (clr b i+2^i) n=A;generalize qq r b n=B;cases b.testBit i<;>cases r.x.testBit i<;>simp only[A4x,A6n]<;>intro p1<;>omega
   ·simp only[A0e,A2d,A6f,A7a] at p0 ⊢
    revert p0
    generalize qq (b0z .both i j r) (clr b i) n=A;generalize qq r b n=B;cases b.testBit i<;>cases r.x.testBit i<;>simp only[A4x,A6n,Bool.false_xor,Bool.true_xor,A6y,A6g,A2u]<;>intro p0<;>omega
end
end Tw
namespace Tw
open PySem L2
variable {a:Addr}{d:Dd}{p:Int×Int}{b c i:Nat}{r:Row}
theorem b2n {b:Bool}{n:Nat}(h:i<n):b.toNat*2^i<2^n:=by
 have h1:(2:Nat)^i<2^n:=A1r (by decide) h;have h2:=A1m n;cases b
 ·simpa using h2
 ·simpa using h1
theorem m_le {m:Nat}(h:m<=1)(b:Bool):m^^^b.toNat<=1:=by
 rw[m_xor h];cases b<;>simp<;>omega
theorem actW_ok {k:DK}{j n:Nat}(ok:r.Ok n)(hi:i<n)(hj:k.n=2->j<n):(b0z k i j r).Ok n:=by
 cases k with
 | over=>exact⟨m_le ok.m _,ok.x,ok.z⟩
 | quarter=>exact⟨m_le ok.m _,ok.x,b5v ok.z (b2n hi)⟩
 | back=>exact⟨m_le ok.m _,ok.x,b5v ok.z (b2n hi)⟩
 | both=>exact⟨m_le ok.m _,b5v ok.x (b2n hi),b5v ok.z (b2n hi)⟩
 | wher=>exact⟨m_le ok.m _,b5v ok.x (b2n (hj rfl)),b5v ok.z (b2n hi)⟩
 | swap=>exact⟨ok.m,b5v (b5v ok.x (b2n hi)) (b2n (hj rfl)),b5v (b5v ok.z (b2n hi)) (b2n (hj rfl))⟩
theorem Dd.Ok.one {n:Nat}(ok:d.Ok n):d.w.getD 0 0<n/\(d.k.n=2->d.w.getD 1 0<n/\d.w.getD 0 0≠d.w.getD 1 0)/\d.w.getD 0 0∈d.w/\(d.k.n=2->d.w.getD 1 0∈d.w):=by
 obtain⟨k,w⟩:=d;have hl:=ok.len;have hp:=k.n_pos;have hlt:=ok.lt;have hnd:=ok.nd;dsimp only at hl hlt hnd ⊢
 rcases A4d k.n 2 with h|h
 ·obtain⟨i,rfl⟩:=a9r (w:=w) (by omega);exact⟨hlt i (by simp),fun z=>by omega,by simp,fun z=>by omega⟩
 ·obtain⟨i,j,rfl⟩:=b5c (w:=w) (by omega)
  have hij:i≠j:=by
   intro z;subst z;simp at hnd
  exact⟨hlt i (by simp),fun _=>⟨hlt j (by simp),hij⟩,by simp,fun _=>by simp⟩
theorem act_ok {n:Nat}(ok:r.Ok n)(hd:d.Ok n):(act d r).Ok n:=actW_ok ok hd.one.1 fun e=>(hd.one.2.1 e).1
def But (f:Addr)(H H':Hp):Prop:=∀c o,c≠f->H c=some o->H' c=some o
theorem But.same {f:Addr}{H0 H H':Hp}(s:a2f H0 H)(h:But f H H')(n:H0 f=none):a2f H0 H':=fun c o e=>h c o (a0p e n) (s c o e)
theorem But.upd {f:Addr}{H:Hp}{o:HO}:But f H (L2.upd H f o):=fun c u hc e=>by rw[a0q hc];exact e
abbrev Wh:=List (Nat×Int×Int)
inductive WR (K:A0a) (H:Hp):Wh->List (Key×V)->Prop
 | nil:WR K H [] []
 | cons {b:Nat} {p:Int×Int} {a:Addr} {ws:Wh} {kvs:List (Key×V)}:SqT K H a [.int p.1,.int p.2]->WR K H ws kvs->WR K H ((b,p)::ws) ((.inl ((b:Nat):Int),.ref a)::kvs)
def wat (ws:Wh)(b:Nat):Option (Int×Int):=(ws.find? fun e=>decide (e.1=b)).map (·.2)
def wput (ws:Wh)(b:Nat)(p:Int×Int):Wh:=if ws.any (fun e=>decide (e.1=b)) then ws.map (fun e=>if e.1=b then (e.1,p) else e) else ws++[(b,p)]
section
variable {K:A0a}{H H':Hp}{ws:Wh}{kvs:List (Key×V)}
theorem WR.stay (h:WR K H ws kvs)(s:∀a xs,SqT K H a xs->SqT K H' a xs):WR K H' ws kvs:=by
 induction h with
 | nil=>exact .nil
 | cons q _ ih=>exact .cons (s _ _ q) ih
theorem WR.len (h:WR K H ws kvs):kvs.length=ws.length:=by
 induction h with
 | nil=>rfl
 | cons q _ ih=>simp[ih]
theorem key_eq {a:Nat}:((A8g ((a:Nat):Int):Key)=.inl ((b:Nat):Int)) ↔ a=b:=by
 constructor
 ·intro h;exact Int.ofNat_inj.mp (Sum.inl.inj h)
 ·rintro rfl;rfl
theorem WR.val (h:WR K H ws kvs)(b:Nat):(d0n kvs (.inl ((b:Nat):Int))=none/\wat ws b=none)\/∃a p,d0n kvs (.inl ((b:Nat):Int))=some (.ref a)/\SqT K H a [.int p.1,.int p.2]/\wat ws b=some p:=by
 induction h with
 | nil=>exact .inl ⟨rfl,rfl⟩
 | @cons c p a ws kvs q _ ih=>
  by_cases e:c=b
  ·subst e;refine .inr ⟨a,p,c6d rfl,q,?_⟩;unfold wat;rw[List.find?_cons,decide_eq_true rfl];rfl
  ·have e1:¬(A8g ((c:Nat):Int):Key)=.inl ((b:Nat):Int):=fun z=>e (key_eq.mp z)
   have e2:wat ((c,p)::ws) b=wat ws b:=by
    unfold wat;rw[List.find?_cons,decide_eq_false e]
   rw[e2,c6f e1];exact ih
theorem WR.any (h:WR K H ws kvs)(b:Nat):(kvs.any fun kv=>decide (kv.1=.inl ((b:Nat):Int)))=ws.any fun e=>decide (e.1=b):=by
 induction h with
 | nil=>rfl
 | @cons c p a ws kvs q _ ih=>
  rw[A8d,A8d,ih]
  congr 1
  by_cases e:c=b
  ·subst e;rw[decide_eq_true rfl,decide_eq_true rfl]
  ·rw[decide_eq_false e,decide_eq_false fun z=>e (key_eq.mp z)]
theorem WR.snoc (h:WR K H ws kvs)(q:SqT K H a [.int p.1,.int p.2]):WR K H (ws++[(b,p)]) (kvs++[(.inl ((b:Nat):Int),.ref a)]):=by
 induction h with
 | nil=>exact .cons q .nil
 | cons q' _ ih=>exact .cons q' ih
theorem WR.repl (h:WR K H ws kvs)(q:SqT K H a [.int p.1,.int p.2]):WR K H (ws.map fun e=>if e.1=b then (e.1,p) else e) (kvs.map fun kv=>if kv.1=.inl ((b:Nat):Int) then (kv.1,.ref a) else kv):=by
 induction h with
 | nil=>exact .nil
 | @cons c p' a' ws kvs q' _ ih=>
  rw[A0m,A0m]
  by_cases e:c=b
  ·subst e;rw[if_pos rfl,if_pos rfl];exact .cons q ih
  ·rw[if_neg e,if_neg fun z=>e (key_eq.mp z)];exact .cons q' ih
theorem WR.put (h:WR K H ws kvs)(q:SqT K H a [.int p.1,.int p.2]):WR K H (wput ws b p) (c5r kvs (.inl ((b:Nat):Int)) (.ref a)):=by
 unfold wput c5r;rw[h.any b]
 split
 ·exact h.repl q
 ·exact h.snoc q
theorem WR.get (h:WR K H ws kvs):∀{i:Nat} {k:Key} {v:V},kvs[i]? = some (k,v)->∃b p a,ws[i]? = some (b,p)/\k=.inl ((b:Nat):Int)/\v=.ref a/\SqT K H a [.int p.1,.int p.2]:=by
 induction h with
 | nil=>intro i k v e;simp at e
 | @cons c p a ws kvs q _ ih=>
  intro i k v e
  cases i with
  | zero=>
   simp only[List.getElem?_cons_zero,A9z,A3f] at e;exact⟨c,p,a,rfl,e.1.symm,e.2.symm,q⟩
  | succ i=>
   rw[List.getElem?_cons_succ] at e ⊢;exact ih e
def wd (ws:Wh):Key->PyData
 | .inl i=>d5t ((wat ws i.toNat).getD (0,0))
 | .inr _=>d5t (0,0)
theorem a9q (e:c≠b):wat ((c,p)::ws) b=wat ws b:=by
 unfold wat;rw[List.find?_cons,decide_eq_false e]
theorem b7b :wat ((c,p)::ws) c=some p:=by
 unfold wat;rw[List.find?_cons,decide_eq_true rfl];rfl
theorem wd_flat (ws:Wh)(k:Key):d5k (wd ws k):=by
 cases k with
 | inl i=>exact pair_flat _
 | inr x=>exact pair_flat _
theorem WR.dv (h:WR K H ws kvs)(nd:(ws.map (·.1)).Nodup):∀k x,(k,x)∈kvs->DV K H x (wd ws k)/\d5k (wd ws k):=by
 suffices s:∀k x,(k,x)∈kvs->∃b a p,k=.inl ((b:Nat):Int)/\x=.ref a/\b∈ws.map (·.1)/\wat ws b=some p/\SqT K H a [.int p.1,.int p.2] by
  intro k x hx;obtain⟨b,a,p,rfl,rfl,_,e,q⟩:=s k x hx;refine⟨?_,wd_flat _ _⟩;show DV K H (.ref a) (d5t ((wat ws ((b:Nat):Int).toNat).getD (0,0)));rw[A3p,e];exact pair_dv q
 induction h with
 | nil=>intro k x hx;cases hx
 | @cons c p a ws kvs q _ ih=>
  rw[A0m,A3e] at nd;intro k x hx
  rcases List.mem_cons.mp hx with e|hx
  ·cases e;exact⟨c,a,p,rfl,rfl,by simp,b7b,q⟩
  ·obtain⟨b,a',p',rfl,rfl,hb,e,q'⟩:=ih nd.2 k x hx;refine⟨b,a',p',rfl,rfl,by simp[hb],?_,q'⟩;rw[a9q (c:=c) (b:=b) fun z=>nd.1 (by show c∈_;rw[z];exact hb)];exact e
theorem WR.same {ws2:Wh}{kvs2:List (Key×V)}(h:WR K H ws kvs)(h2:WR K H ws2 kvs2)(hl:ws.length=ws2.length)(hw:∀b,wat ws b=wat ws2 b)(hn:∀b∈ws.map (·.1),(wat ws b).isSome=true):c2f kvs kvs2 (wd ws) (wd ws2)=true:=by
 unfold c2f;rw[A3y];refine⟨decide_eq_true (by rw[h.len,h2.len,hl]),List.all_eq_true.mpr fun kv hkv=>?_⟩;obtain⟨i,hi⟩:=List.getElem?_of_mem hkv;obtain⟨b,p,a,e1,e2,e3,_⟩:=h.get (k:=kv.1) (v:=kv.2) hi;have hb:b∈ws.map (·.1):=List.mem_map.mpr ⟨(b,p),List.mem_of_getElem? e1,rfl⟩
 rw[e2,A3y]
 constructor
 ·have hs:=hn b hb;rw[hw b] at hs
  rcases h2.val b with ⟨_,q⟩|⟨a2,p2,q,_⟩
  ·rw[q] at hs;cases hs
  ·rw[q];rfl
 ·have e:wd ws (.inl ((b:Nat):Int))=wd ws2 (.inl ((b:Nat):Int)):=by
   unfold wd;dsimp only;rw[A3p,hw b]
  rw[e];unfold wd;dsimp only;rw[pair_eqv];exact decide_eq_true rfl
end
def wadd (ws:Wh)(b:Nat)(p:Int×Int):Wh:=wput ws b (((wat ws b).getD (0,0)).1+p.1,((wat ws b).getD (0,0)).2+p.2)
def c2x (ws es:Wh):Wh:=es.foldl (fun acc e=>wadd acc e.1 e.2) ws
theorem wadd_new {ws:Wh}(h:∀e∈ws,e.1≠b):wadd ws b p=ws++[(b,p)]:=by
 have h1:(ws.any fun e=>decide (e.1=b))=false:=by
  rw[B0c];intro e he;simp[h e he]
 have h2:wat ws b=none:=by
  unfold wat;rw[List.find?_eq_none.mpr]
  ·rfl
  ·intro e he;simp[h e he]
 unfold wadd wput;rw[h1,h2];simp
theorem d6a {ws:Wh}(h:∀e∈ws,e.1≠b):wput ws b p=ws++[(b,p)]:=by
 have h1:(ws.any fun e=>decide (e.1=b))=false:=by
  rw[B0c];intro e he;simp[h e he]
 unfold wput;rw[h1];simp
def a6k (d:Dd)(ws:Wh):Wh:=ws.foldl (fun acc e=>c2x acc (a6c d.k (d.w.getD 0 0) (d.w.getD 1 0) e)) []
theorem xor_inj {a:Nat}(h:a^^^c=b^^^c):a=b:=by
 have:=congrArg (· ^^^ c) h
 simpa[A0q] using this
theorem d6m {ws:Wh}(h:b∈ws.map (·.1)):(wat ws b).isSome=true:=by
 obtain⟨e,he,rfl⟩:=List.mem_map.mp h;unfold wat;rw[Option.isSome_map,List.find?_isSome];exact⟨e,he,by simp⟩
end Tw
namespace L2
open PySem
variable {H:Hp}{Q:VK}
def rDisp (p:Addr)(x y:V)(H2:Hp)(Q:VK):Prop:=H2 p=some (.dK [])/\∃kvs:List (Key×V),[(x,y)]=kvs.map (fun kv=>(kV kv.1,kv.2))/\kvs.length<=15/\Q (.ref p) (upd H2 p (.dK (d2p [] kvs)))
theorem st_disp1 {tk tv:TE}{σ:St}(h:∀p,H p=none->tk σ (upd H p (.dK [])) fun x H1=>tv σ H1 fun y H2=>rDisp p x y H2 Q):tDisp [(tk,tv)] σ H Q:=h
theorem st_disp2 {p:Addr}{i:Int}{y:V}(h:H p=some (.dK []))(q:Q (.ref p) (upd H p (.dK [(.inl i,y)]))):rDisp p (.int i) y H Q:=⟨h,[(.inl i,y)],rfl,A5n rfl,q⟩
section
variable {K:A0a}{H:Hp}{D:c1z}{σ:St}{g:TG}{tb:TS}{a:Addr}{xs:List V}
end
end L2
namespace L2
open PySem PySem.Spec PyProof.Rows
variable {K:A0a}{a:Addr}{H:Hp}{xs:List V}{σ:St}{te:TE}{tt:TT}{Q:VK}
section
variable {M:Model}{A:Around}{E:Value->Shared->Prop}{s:Shared}{base:Heap}{env:Env}{outer:List Env}{L e:Addr}{cls a0 fl:Value}
end
section
variable {X:Cx}{scope:Scope}{x:Str}{px pos:Pos}{elt iter:Expr}{ifs:List Expr}{wi:TI}{tt:TT}{te:TE}{E:XK}
end
section
variable {X:Cx}{tg:Expr}
end
section
variable {K:A0a}{a:Addr}{xs:List V}{g:TG}{tb:TS}{D:c1z}{σ:St}{H:Hp}
end
theorem d6f (Pv:Nat->List V->Hp->Prop)(hn:xs.length<=1000)(h0:Pv 0 [] H)(hl:∀i ys H,Pv i ys H->ys.length<=i)(hk:∀i ys H,Pv i ys H->SqL K H a xs)
  (hs:∀i x ys H,xs[i]? = some x->Pv i ys H->tt (some x::σ) H fun b H2=>if b=true then te (some x::σ) H2 fun y H3=>Pv (i+1) (ys++[y]) H3 else Pv (i+1) ys H2)
  (hd:∀ys H,Pv xs.length ys H->∀p,H p=none->Q (.ref p) (upd H p (.lst ys))) :
  ∃W:Nat->Nat->List V->Hp->Prop,(∃m,W 0 m [] H)/\∀i m ys H,W i m ys H->((Itl K a).stop i H/\∀p,H p=none->Q (.ref p) (upd H p (.lst ys)))\/
   ((Itl K a).go i H/\ys.length<sizeLine/\∃N:List V->Hp->Prop,(∀ys' H',N ys' H'->∃m',m'<m/\W (i+1) m' ys' H')/\
    ∀x H',(Itl K a).yld i H x H'->tt (some x::σ) H' fun b H2=>if b=true then te (some x::σ) H2 fun y H3=>N (ys++[y]) H3 else N ys H2):=by
 refine⟨fun i m ys H=>m=xs.length-i/\i<=xs.length/\Pv i ys H,⟨xs.length,by simp,A1v _,h0⟩,?_⟩;rintro i m ys H ⟨rfl,hi,p⟩
 by_cases hlt:i<xs.length
 ·refine .inr ⟨⟨xs,xs[i],hk i ys H p,by simp[hlt]⟩,a5r (by have:=hl i ys H p;omega),Pv (i+1),fun ys' H' p'=>⟨xs.length-(i+1),by omega,rfl,hlt,p'⟩,fun x H' y=>?_⟩;obtain⟨e,y⟩:=y;subst e;exact hs i x ys _ (y xs (hk i ys _ p)) p
 ·have e:i=xs.length:=by omega
  subst e;exact .inl ⟨⟨xs,hk _ ys H p,A0f _⟩,hd ys H p⟩
theorem b3z {tl:TE}(e:∀P:V->Hp->Prop,P (.ref a) H->tl σ H P)(s:SqL K H a xs)(Pv:Nat->List V->Hp->Prop)(hn:xs.length<=1000)(h0:Pv 0 [] H)(hl:∀i ys H,Pv i ys H->ys.length<=i)(hk:∀i ys H,Pv i ys H->SqL K H a xs)
  (hs:∀i x ys H,xs[i]? = some x->Pv i ys H->tt (some x::σ) H fun b H2=>if b=true then te (some x::σ) H2 fun y H3=>Pv (i+1) (ys++[y]) H3 else Pv (i+1) ys H2)
  (hd:∀ys H,Pv xs.length ys H->∀p,H p=none->Q (.ref p) (upd H p (.lst ys))):c4q (iList K tl) tt te σ H Q:=
 e _ ⟨a,rfl,⟨xs,s⟩,d6f Pv hn h0 hl hk hs hd⟩
end L2
namespace Tw
variable {a b c:Nat}{r:Row}
theorem xx (a b:Nat):a^^^b^^^b=a:=by rw[A0q,A1g,A1c]
theorem xx2 (h:c=b):a^^^b^^^c=a:=by rw[h,xx]
theorem d2y {a' b' c':Nat}(h1:a=a')(h2:b=b')(h3:c=c'):(⟨a,b,c⟩:Row)=⟨a',b',c'⟩:=by rw[h1,h2,h3]
theorem actW_undo {k:DK}{i j:Nat}(hj:k.n=2->i≠j):b0z k.inv i j (b0z k i j r)=r:=by
 obtain⟨m,x,z⟩:=r;have td:∀q:Nat,decide (q=q)=true:=fun q=>decide_eq_true rfl
 cases k with
 | over=>exact d2y (xx _ _) rfl rfl
 | quarter=>
  refine d2y (xx2 ?_) rfl (xx2 rfl);simp only[b0z,A0e,a3z,td];cases x.testBit i<;>cases z.testBit i<;>rfl
 | back=>
  refine d2y (xx2 ?_) rfl (xx2 rfl);simp only[b0z,A0e,a3z,td];cases x.testBit i<;>cases z.testBit i<;>rfl
 | both=>
  refine d2y (xx2 ?_) (xx2 ?_) (xx2 ?_)<;>simp only[b0z,A0e,a3z,td]
  ·cases x.testBit i<;>cases z.testBit i<;>rfl
  ·cases x.testBit i<;>cases z.testBit i<;>rfl
  ·cases x.testBit i<;>cases z.testBit i<;>rfl
 | wher=>
  have hij:=hj rfl;have d1:decide (j=i)=false:=decide_eq_false (A1e hij);have d2:decide (i=j)=false:=decide_eq_false hij;refine d2y (xx2 ?_) (xx2 ?_) (xx2 ?_)<;>simp only[b0z,A0e,a3z,td,d1,d2]
  ·cases x.testBit i<;>cases z.testBit i<;>cases x.testBit j<;>cases z.testBit j<;>rfl
  ·simp
  ·simp
 | swap=>
  have hij:=hj rfl
  have e:∀b,ex (ex b i j) i j=b:=fun b=>by
   apply A0p;intro k;rw[ex_tb hij,ex_tb hij,ex_tb hij,ex_tb hij]
   by_cases e:k=i
   ·subst e;simp[A1e hij]
   ·by_cases e2:k=j
    ·subst e2;simp[e]
    ·simp[e,e2]
  exact d2y rfl (e _) (e _)
def Dd.inv (d:Dd):Dd:=⟨d.k.inv,d.w⟩
theorem act_inv {d:Dd}{n:Nat}(h:d.Ok n):act d.inv (act d r)=r:=actW_undo fun e=>(h.one.2.1 e).2
def d1h (ds:List Dd)(r:Row):Row:=ds.foldl (fun r d=>act d r) r
def undo (ds:List Dd):List Dd:=(ds.map Dd.inv).reverse
theorem acts_snoc (ds:List Dd)(d:Dd)(r:Row):d1h (ds++[d]) r=act d (d1h ds r):=by unfold d1h;rw[A4y];rfl
theorem d0k {n:Nat}:∀{ds:List Dd},(∀d∈ds,d.Ok n)->∀r,d1h (undo ds) (d1h ds r)=r
 | [],_,_=>rfl
 | d::ds,h,r=>by
  have e:undo (d::ds)=undo ds++[d.inv]:=by unfold undo;rw[A0m,A5z]
  rw[e,acts_snoc];show act d.inv (d1h (undo ds) (d1h ds (act d r)))=r;rw[d0k (fun x hx=>h x (A0d _ hx)),act_inv (h d A0k)]
theorem acts_ok {n:Nat}:∀{ds:List Dd} {r:Row},r.Ok n->(∀d∈ds,d.Ok n)->(d1h ds r).Ok n
 | [],_,h,_=>h
 | d::ds,r,h,hd=>acts_ok (ds:=ds) (act_ok h (hd d A0k)) fun x hx=>hd x (A0d _ hx)
end Tw
namespace Tw
open PySem L2
inductive a4a {α β:Type} (R:α->β->Prop):List α->List β->Prop
 | nil:a4a R [] []
 | cons {a b as bs} (h:R a b) (t:a4a R as bs):a4a R (a::as) (b::bs)
section
variable {α β:Type}{R R':α->β->Prop}{as cs:List α}{bs ds:List β}
theorem a4a.mono (k:∀a b,R a b->R' a b):∀{as:List α} {bs:List β},a4a R as bs->a4a R' as bs
 | _,_,.nil=>.nil
 | _,_,.cons h t=>.cons (k _ _ h) (t.mono k)
theorem a4a.len:∀{as:List α} {bs:List β},a4a R as bs->as.length=bs.length
 | _,_,.nil=>rfl
 | _,_,.cons _ t=>by rw[A1a,A1a,t.len]
theorem a4a.get {as:List α}{bs:List β}(h:a4a R as bs):∀{i:Nat} {a:α},as[i]? = some a->∃b,bs[i]? = some b/\R a b:=by
 induction h with
 | nil=>
  intro i a e;cases e
 | cons h t ih=>
  intro i a e
  cases i with
  | zero=>
   cases e;exact⟨_,rfl,h⟩
  | succ i=>exact ih (i:=i) (by simpa using e)
theorem a4a.app:∀{as:List α} {bs:List β},a4a R as bs->a4a R cs ds->a4a R (as++cs) (bs++ds)
 | _,_,.nil,h=>h
 | _,_,.cons x t,h=>.cons x (t.app h)
theorem a4a.snoc {a:α}{b:β}(h:a4a R as bs)(x:R a b):a4a R (as++[a]) (bs++[b]):=h.app (.cons x .nil)
end
abbrev refs (as:List Addr):List V:=as.map V.ref
theorem But.of {f:Addr}{H H1 H':Hp}(s:a2f H H1)(h:But f H1 H'):But f H H':=fun c o hc e=>h c o hc (s c o e)
section
variable {K:A0a}{H:Hp}{Q:VK}{a b:Addr}{as bs:List Addr}{ds:List Dd}
end
theorem a6m {as:List Addr}{i:Nat}{x:V}(h:(refs as)[i]? = some x):∃a,as[i]? = some a/\x=.ref a:=by
 unfold refs at h;rw[List.getElem?_map] at h
 cases e:as[i]? with
 | none=>rw[e] at h;cases h
 | some a=>rw[e] at h;exact⟨a,rfl,(A0j h).symm⟩
theorem a1r (as:List Addr):(refs as).length=as.length:=A0c _
end Tw
namespace L2
open PySem PySem.Spec PyProof.Rows
section
variable {K:A0a}{a:Addr}{xs:List V}{tl:TE}{tt:TT}{te:TE}{Q:VK}{σ:St}{H:Hp}
def sCompL (K:A0a)(tt:TT)(te:TE)(σ:St)(Q:VK):V->Hp->Prop:=fun x H=>∃a,x=.ref a/\(∃xs,SqL K H a xs)/\∃W:Nat->Nat->List V->Hp->Prop,(∃m,W 0 m [] H)/\∀i m ys H,W i m ys H->((Itl K a).stop i H/\∀p,H p=none->Q (.ref p) (upd H p (.lst ys)))\/
   ((Itl K a).go i H/\ys.length<sizeLine/\∃N:List V->Hp->Prop,(∀ys' H',N ys' H'->∃m',m'<m/\W (i+1) m' ys' H')/\
    ∀x H',(Itl K a).yld i H x H'->tt (some x::σ) H' fun b H2=>if b=true then te (some x::σ) H2 fun y H3=>N (ys++[y]) H3 else N ys H2)
theorem st_cpE (h:tl σ H (sCompL K tt te σ Q)):c4q (iList K tl) tt te σ H Q:=h
theorem st_cpAt (s:SqL K H a xs)(Pv:Nat->List V->Hp->Prop)(hn:xs.length<=1000)(h0:Pv 0 [] H)(hl:∀i ys H,Pv i ys H->ys.length<=i)(hk:∀i ys H,Pv i ys H->SqL K H a xs)
  (hs:∀i x ys H,xs[i]? = some x->Pv i ys H->tt (some x::σ) H fun b H2=>if b=true then te (some x::σ) H2 fun y H3=>Pv (i+1) (ys++[y]) H3 else Pv (i+1) ys H2)
  (hd:∀ys H,Pv xs.length ys H->∀p,H p=none->Q (.ref p) (upd H p (.lst ys))):sCompL K tt te σ Q (.ref a) H:=⟨a,rfl,⟨xs,s⟩,d6f Pv hn h0 hl hk hs hd⟩
end
end L2
namespace Tw
open PySem L2
def Rt (K:A0a)(H:Hp)(a:Addr)(r:Row):Prop:=H a=some (.tup r.V)
def rD (r:Row):PyData:=.tuple (r.V.map dV)
section
variable {K:A0a}{H:Hp}{Q:VK}{a b:Addr}{as bs:List Addr}{rs:List Row}
end
theorem Rt.same {K:A0a}{H H':Hp}{a:Addr}{r:Row}(s:a2f H H')(h:Rt K H a r):Rt K H' a r:=s _ _ h
theorem a7a (as:List Addr)(a:Addr):refs as++[.ref a]=refs (as++[a]):=by unfold refs;rw[A1b];rfl
theorem none_of {H H':Hp}{p:Addr}(s:a2f H H')(h:H' p=none):H p=none:=by
 cases e:H p with
 | none=>rfl
 | some o=>rw[s _ _ e] at h;cases h
end Tw
namespace L2
open PySem PySem.Spec PyProof.Rows
section
variable {X:Cx}{tg:Expr}
end
section
variable {K:A0a}{a:Addr}{xs:List V}{g:TG}{tb:TS}{D:c1z}{σ:St}{H:Hp}
end
end L2
namespace Tw
open PySem L2 in
open PySem L2 in
section
open PySem L2
variable {K:A0a}{H:Hp}{Q:VK}{a b:Addr}{as bs:List Addr}{rs ss:List Row}{r s:Row}
end
theorem a4a.get' {α β:Type}{R:α->β->Prop}{as:List α}{bs:List β}(h:a4a R as bs):∀{i:Nat} {b:β},bs[i]? = some b->∃a,as[i]? = some a/\R a b:=by
 induction h with
 | nil=>
  intro i b e;cases e
 | cons h t ih=>
  intro i b e
  cases i with
  | zero=>
   cases e;exact⟨_,rfl,h⟩
  | succ i=>exact ih (i:=i) (by simpa using e)
end Tw
namespace L2
open PySem PySem.Spec PyProof.Rows
section
variable {X:Cx}
end
section
variable {K:A0a}{H:Hp}{Q:VK}{l:Addr}{xs:List V}{k:Int}
end
end L2
namespace Tw
open PySem L2
section
variable {K:A0a}{H:Hp}{Q:VK}{a b a1 a2 b1 b2:Addr}{as as' bs bs':List Addr}{ds es:List Dd}
end
theorem cut_intsG (ns:List Int)(lo hi:Nat):∃ms:List Int,cutV (ns.map V.int) (some (lo:Int)) (some (hi:Int))=ms.map V.int/\ms.length<=hi-lo:=by
 refine⟨(ns.drop (min lo ns.length)).take (min hi ns.length-min lo ns.length),?_,by rw[A0u,B0z];omega⟩;unfold cutV;rw[HT.sIx_nat,HT.sIx_nat,A0c,List.map_take,List.map_drop]
end Tw
namespace L2
open PySem PySem.Spec PyProof.Rows
section
variable {X:Cx}
end
section
variable {X:Cx}{e:Expr}{lo hi:Option Expr}{st:Expr}{te ts:TE}{tl th:TO}{p2 pos:Pos}
end
section
variable {K:A0a}{a:Addr}{xs:List V}{ta:TA}{tt:TT}{te:TE}{Q:VK}{σ:St}{H:Hp}
end
end L2
namespace Tw
open PySem PySem.Spec L2
def Ft (H:Hp)(a:Addr)(xs:List V):Prop:=H a=some (.tup xs)/\xs.all okV=true
theorem c9m {K:A0a}{H:Hp}:∀{as:List Addr} {xss:List (List V)},a4a (Ft H) as xss->DVs K H (refs as) (xss.map fun xs=>A3w (xs.map dV))
 | _,_,.nil=>.nil
 | _,_,.cons h t=>.cons (.tup (SqT.of h.1) (dvs_flat h.2)) (c9m t)
theorem lay_ft {H:Hp}:∀{as:List Addr} {xss:List (List V)},a4a (Ft H) as xss->A5y (xss.map fun xs=>A3w (xs.map dV))=true
 | _,_,.nil=>rfl
 | _,_,.cons (b:=xs) h t=>by
  have h1:(A3w (xs.map dV)).canLay0=true:=by
   rw[A6e];exact dVs_lay h.2
  simp[A5y,h1,lay_ft t]
theorem d4s:∀{xss:List (List V)},A4w (xss.map fun xs=>A3w (xs.map dV))<=1
 | []=>by simp[A4w]
 | xs::r=>by
  have h1:(A3w (xs.map dV)).depth<=1:=by
   simp only[A7v,dVs_depth];omega
  have h2:=d4s (xss:=r);simp only[A0m,A4w];omega
theorem eqv_ft {H:Hp}:∀{as:List Addr} {xss:List (List V)},a4a (Ft H) as xss->A4a (xss.map fun xs=>A3w (xs.map dV)) (xss.map fun xs=>A3w (xs.map dV))=true
 | _,_,.nil=>rfl
 | _,_,.cons (b:=xs) h t=>by
  have h1:A2q (A3w (xs.map dV)) (A3w (xs.map dV))=true:=by
   rw[A2q,dVs_eqv]
  simp[A4a,h1,eqv_ft t]
section
variable {K:A0a}{H:Hp}{Q:VK}{a b:Addr}{as bs:List Addr}{xs ys:List (List V)}
theorem shaped_ft (h:a4a (Ft H) as xs):A4k (.list (xs.map fun xs=>A3w (xs.map dV)))=true:=by
 have h2:=d4s (xss:=xs);unfold A4k;rw[A6e,A7v,lay_ft h,A2d,decide_eq_true_eq];omega
end
end Tw
namespace L2
open PySem PySem.Spec PyProof.Rows
section
variable {X:Cx}
end
section
variable {X:Cx}
def tThawE (t:TE):TE:=fun σ H Q=>∃a kvs,H a=some (.dK kvs)/\t σ H fun v H'=>∃o,H' a=some (.frz o (.dK kvs))/\Q v (upd H' a (.dK kvs))
theorem pe_thaw {e:Expr}{t:TE}(h:PE X e t):PE X e (tThawE t):=by
 intro pins s σ H Q I q;obtain⟨a,kvs,ea,q⟩:=q
 have h0:∀o u,X.H₀ a≠some (.frz o u):=fun o u z=>by
  have:=I.base.frzs a o u z;rw[ea] at this;cases this
 exact thn (h pins s σ H _ I q) fun v s1 ⟨x,H1,I1,r1,o,e1,q1⟩=>⟨x,_,I1.thaw h0 e1,r1,q1⟩
end
section
variable {K:A0a}{tl:TE}{tt:TT}{te:TE}{Q:VK}{σ:St}{H:Hp}{a:Addr}{kvs:List (Key×V)}
end
end L2
namespace PySem
open Sem (wp)
namespace F
end F
section
variable {prog:Program}{w:World}{K:Type} [DecidableEq K]{knd:KeyKind prog w K}{A:Around}{R:Result->Shared->Prop}
end
end PySem
namespace L2
open PySem PySem.Spec PyProof.Rows
section
variable {X:Cx}
end
def CMulV (i j:Int):Prop:=i.natAbs<2^300/\j.natAbs<2^300
theorem bits300V {k:Int}(h:k.natAbs<2^300):A1p k<=300:=by
 unfold A1p
 split
 ·exact A1v _
 ·rcases Nat.eq_zero_or_pos k.natAbs with z|z
  ·rw[z];decide
  ·exact(Nat.log2_lt (B1g z)).mpr h
theorem b2j {X:Cx}:OpR X (binaryOp .Mult) (rI CMulV fun i j=>.int (i*j)):=opI fun _ _ _ _ _ _ _ hc q=>mul_int q (IntMulOk.of_bits (A0y (bits300V hc.1) (by decide)) (A0y (bits300V hc.2) (by decide)))
theorem st_par {i j:Nat}{ta:TA}{D:c1z}{σ:St}{H:Hp}(h:ta σ H fun vs H1=>∃v w,vs=[v,w]/\D.nx ((σ.set i (some v)).set j (some w)) H1):tPar i j ta D σ H:=h
end L2
namespace Tw
open PySem L2
variable {K:A0a}{H:Hp}{kvs:List (Key×V)}{q r:Row}{ws:Wh}
def crs (r q:Row):Nat:=(r.x&&&q.z)^^^(r.z&&&q.x)
def qrt (r q:Row):Int:=2*((r.m:Int)+(q.m:Int)+(pop (r.x&&&q.z):Nat))+(pop (r.x&&&r.z):Nat)+(pop (q.x&&&q.z):Nat)-(pop ((r.x^^^q.x)&&&(r.z^^^q.z)):Nat)
def prod (r q:Row):Row:=⟨(qrt r q%4/2).toNat,r.x^^^q.x,r.z^^^q.z⟩
def trn (r:Row)(b:Nat):Nat:=2*r.m+2*pop (r.z&&&b)+pop (r.x&&&r.z)
theorem qrt_even (h:pop (crs r q)%2=0):qrt r q%2=0:=quart_even (pop_both r.x r.z q.x q.z) h
theorem prod_m (r q:Row):((prod r q).m:Int)=qrt r q%4/2:=by
 show ((qrt r q%4/2).toNat:Int)=_;omega
theorem prod_does (h:pop (crs r q)%2=0)(b:Nat):(b^^^r.x)^^^q.x=b^^^(prod r q).x/\(trn r b%4+trn q (b^^^r.x)%4)%4=trn (prod r q) b%4:=by
 refine⟨by show _=b^^^(r.x^^^q.x);rw[A0q],?_⟩;have h1:=prod_m r q;have h2:=(quart_half (qrt_even h)).2.2;have h3:=d4p r.z q.z r.x b;unfold trn;show _=(2*(prod r q).m+2*pop ((r.z^^^q.z)&&&b)+pop ((r.x^^^q.x)&&&(r.z^^^q.z)))%4;have h4:qrt r q=2*((r.m:Int)+(q.m:Int)+(pop (r.x&&&q.z):Nat))+(pop (r.x&&&r.z):Nat)+(pop (q.x&&&q.z):Nat)-(pop ((r.x^^^q.x)&&&(r.z^^^q.z)):Nat):=rfl;rw[<- h1] at h2;omega
theorem prod_self (r:Row):(prod r r).V=[.int 0,.int 0,.int 0]:=by
 have h1:=prod_m r r;have h6:qrt r r=2*((r.m:Int)+(r.m:Int)+(pop (r.x&&&r.z):Nat))+(pop (r.x&&&r.z):Nat)+(pop (r.x&&&r.z):Nat)-(pop ((r.x^^^r.x)&&&(r.z^^^r.z)):Nat):=rfl;rw[A1g,A1g,B3p,a7z] at h6;have e5:(prod r r).m=0:=by omega
 have e6:(prod r r).x=0:=A1g _;have e7:(prod r r).z=0:=A1g _;unfold Row.V;rw[e5,e6,e7];rfl
theorem crs_self (r:Row):pop (crs r r)%2=0:=by
 unfold crs;rw[A0v r.z,A1g,a7z]
def tE (r:Row)(e:Nat×Int×Int):Nat×Int×Int:=(e.1^^^r.x,a2q (trn r e.1) e.2)
theorem b4t (q:Nat)(h:q%4=0)(p:Int×Int):a2q q p=p:=by
 rw[a2m (b:=0) (by omega)];rfl
theorem trn_about (r q:Row)(b:Nat):(trn r b+trn q (b^^^r.x))%4=(trn q b+trn r (b^^^q.x)+2*pop (crs r q))%4:=by
 have m1:=d4p r.z q.z r.x b;have m2:=d4p q.z r.z q.x b;rw[A4m q.z] at m2;have h3:=a9f (r.x&&&q.z) (r.z&&&q.x);have e3:crs r q=(r.x&&&q.z)^^^(r.z&&&q.x):=rfl;rw[A0v r.z] at h3 e3;rw[e3];unfold trn;omega
theorem turn_2 (p:Int×Int):a2q 2 p=(0-p.1,0-p.2):=by
 unfold a2q;simp
theorem turn_abs (q:Nat){p:Int×Int}{N:Nat}(h:p.1.natAbs<N/\p.2.natAbs<N):(a2q q p).1.natAbs<N/\(a2q q p).2.natAbs<N:=by
 have c:q%4=0\/q%4=1\/q%4=2\/q%4=3:=by omega
 rcases c with c|c|c|c
 ·rw[a2m (b:=0) (by omega)];exact h
 ·rw[a2m (b:=1) (by omega)];show (-p.2).natAbs<N/\p.1.natAbs<N;rw[A9v];exact⟨h.2,h.1⟩
 ·rw[a2m (b:=2) (by omega)];show (-p.1).natAbs<N/\(-p.2).natAbs<N;rw[A9v,A9v];exact h
 ·rw[a2m (b:=3) (by omega)];show p.2.natAbs<N/\(-p.1).natAbs<N;rw[A9v];exact⟨h.2,h.1⟩
theorem wput_keys (ws:Wh)(b:Nat)(p:Int×Int):(wput ws b p).map (·.1)=if ws.any (fun e=>decide (e.1=b)) then ws.map (·.1) else ws.map (·.1)++[b]:=by
 unfold wput
 split
 ·rw[A3q];apply A8s;intro e _;show (if e.1=b then (e.1,p) else e).1=e.1
  split<;>rfl
 ·rw[A1b];rfl
theorem tE_step {i:Nat}{e:Nat×Int×Int}(nd:(ws.map (·.1)).Nodup)(h:ws[i]? = some e):(ws.take (i+1)).map (tE r)=wput ((ws.take i).map (tE r)) (tE r e).1 (tE r e).2:=by
 have ht:ws.take (i+1)=ws.take i++[e]:=by
  rw[B0h,h];rfl
 rw[ht,A1b,d6a fun f hf=>?_]
 ·rfl
 ·obtain⟨g,hg,rfl⟩:=List.mem_map.mp hf;intro z;have z':g.1=e.1:=xor_inj z
  have nd2:((ws.take (i+1)).map (·.1)).Nodup:=by
   rw[List.map_take];exact List.Sublist.nodup (B0e _ _) nd
  rw[ht,A1b,List.nodup_append] at nd2;exact nd2.2.2 g.1 (List.mem_map.mpr ⟨g,hg,rfl⟩) e.1 (by simp) z'
theorem But.tup {f:Addr}{H':Hp}(h:But f H H')(hf:H f=some (.dK kvs)):∀a xs,SqT K H a xs->SqT K H' a xs:=fun a xs s=>by
 rcases s with (s|⟨o,s⟩)|s
 ·exact .inl (.inl (h _ _ (c3r s hf (by intro z;cases z)) s))
 ·exact .inl (.inr ⟨o,h _ _ (c3r s hf (by intro z;cases z)) s⟩)
 ·exact .inr s
theorem b8h {a:Addr}{o:Obj}{u:HO}(h:H a=some (.frz o (.dK kvs))):∀x xs,SqT K H x xs->SqT K (upd H a u) x xs:=fun x xs s=>by
 rcases s with (s|⟨o',s⟩)|s
 ·exact .inl (.inl (by rw[a0q (c3r s h (by intro z;cases z))];exact s))
 ·exact .inl (.inr ⟨o',by rw[a0q (c3r s h (by intro z;cases z))];exact s⟩)
 ·exact .inr s
section
variable {K:A0a}{H:Hp}{Q:VK}{a b:Addr}{kvs kvs2:List (Key×V)}{ws:Wh}
end
theorem WR.keys (h:WR K H ws kvs):kvs.map (·.1)=(ws.map (·.1)).map fun b=>(A8g ((b:Nat):Int):Key):=by
 induction h with
 | nil=>rfl
 | cons q _ ih=>rw[A0m,A0m,A0m,ih]
end Tw
namespace L2
open PySem PySem.Spec PyProof.Rows
end L2
namespace Tw
open PySem L2
def a8a (K:A0a)(H:Hp)(a:Addr)(ws:Wh):Prop:=∃kvs,H a=some (.dK kvs)/\WR K H ws kvs
theorem a8a.stay {K:A0a}{H H':Hp}{a:Addr}{ws:Wh}(h:a8a K H a ws)(s:a2f H H'):a8a K H' a ws:=by
 obtain⟨kvs,h1,h2⟩:=h;exact⟨kvs,s _ _ h1,h2.stay fun a xs q=>s.tup q⟩
end Tw
namespace L2
open PySem PySem.Spec PyProof.Rows
section
variable {X:Cx}
def Itk (a:Addr)(o:Obj)(kvs:List (Key×V)):It:=
 ⟨fun i H=>H a=some (.frz o (.dK kvs))/\i<kvs.length,fun i H x H'=>H'=H/\∃k v,x=kV k/\kvs[i]? = some (k,v),fun i H=>H a=some (.frz o (.dK kvs))/\kvs.length<=i⟩
end
theorem turn_keys {P:Program}{w:World}{K:A0a}{tg:Expr}(a it:Addr)(o:Obj)(kvs:List (Key×V)){es:Array DictEntry}{ep:Nat}(hep:o.data=.dict es ep) :
  Turn P w K tg (Itk a o kvs) [it] it (fun i h=>h.IsKeyIter it a i kvs.length ep/\i<=kvs.length) where
 mem:=by simp
 obj:=fun i h st b hb=>by
  have e:b=it:=by simpa using hb
  subst e;obtain⟨⟨ob,q,_,qd⟩,_⟩:=st;exact⟨ob,q,fun v z=>by rw[qd] at z;cases z⟩
 keep:=fun i h h' st k=>by
  obtain⟨⟨ob,q,r⟩,l⟩:=st;exact⟨⟨ob,k it (by simp) _ q,r⟩,l⟩
 item:=by
  intro X hP hw hK hc i pins s σ H E I hf st hg;subst hP hw hK;obtain⟨hz,hi⟩:=hg;obtain⟨f0,f1,f2,f3,f4,f5⟩:=hf it (by simp);obtain⟨hit,_⟩:=st;obtain⟨go,_,_,vs,rel,o',es',ep',g',ex,hd',r'⟩:=(show a5g X.prog X.w H s.heap a (.frz o (.dK kvs)) from I.hok a _ hz);rw[go] at g';cases g';rw[hep] at hd';cases hd';have hm:s.heap.DictAt (a1s X.prog X.w) a vs ep:=⟨o,es,go,ex,hep,r'⟩;have hl:vs.length=kvs.length:=rel.length.symm;obtain⟨k,x,hx⟩:∃k x,kvs[i]? = some (k,x):=⟨_,_,List.getElem?_eq_getElem hi⟩;obtain⟨v,hv,rv⟩:=kv_get rel hx;rw[<- hl] at hit;refine wpAny_pyNext_dict_item (knd:=a1s X.prog X.w) hit hm hv fun key h' hkey hit' hs'=>⟨_,rfl,?_⟩;obtain⟨o2,q2,c2,d2⟩:=id hit';refine go_of (s:={ s with heap:=h' }) q2 c2 d2 (by decide) ⟨kV k,H,I.turned (t':=s.toks) (fun b o hb e=>hs'.extBut b o hb e) f0 f1 f3 f4 f5,key_rel hkey,⟨rfl,k,x,rfl,hx⟩,⟨by rw[<- hl];exact hit',hi⟩,fun b hb=>?_⟩;have e:b=it:=by simpa using hb
  subst e;exact f0
 done:=by
  intro X hP hw hK hc i pins s σ H E I hf st hg;subst hP hw hK;obtain⟨hz,hi⟩:=hg;obtain⟨f0,f1,f2,f3,f4,f5⟩:=hf it (by simp);obtain⟨hit,_⟩:=st;obtain⟨go,_,_,vs,rel,o',es',ep',g',ex,hd',r'⟩:=(show a5g X.prog X.w H s.heap a (.frz o (.dK kvs)) from I.hok a _ hz);rw[go] at g';cases g';rw[hep] at hd';cases hd';have hm:s.heap.DictAt (a1s X.prog X.w) a vs ep:=⟨o,es,go,ex,hep,r'⟩;have hl:vs.length=kvs.length:=rel.length.symm;rw[<- hl] at hit;exact wpAny_pyNext_dict_end (knd:=a1s X.prog X.w) (I.ok.hd hc) hit hm (List.getElem?_eq_none (by omega)) fun h' eb=>⟨rfl,I.turned (t':=s.toks) (fun b o hb e=>eb b o (by simpa using hb) e) f0 f1 f3 f4 f5⟩
 self:=fun _ _ _ _ _ st h=>by
  exact wpAny_pyIter_keyiter st.1 h
section
variable {X:Cx}
def iKeys (tl:TE):TI:=fun σ H R=>tl σ H fun x H1=>∃a kvs,x=.ref a/\((H1 a=some (.dK kvs)/\∀o,R (Itk a o kvs) (upd H1 a (.frz o (.dK kvs))))\/∃o,H1 a=some (.frz o (.dK kvs))/\R (Itk a o kvs) H1)
theorem pi_keys {tg:Expr}{l:Expr}{tl:TE}(hl:PE X l tl):PI X tg l (iKeys tl):=by
 intro pins s σ H R I h;refine thn (hl pins s σ H _ I h) fun v s1 hq9=>?_;obtain⟨x,H1,I1,r1,q1⟩:=hq9;obtain⟨a,kvs,rfl,q⟩:=q1;cases r1
 have rd:Rd H1 a (.dK kvs):=by
  rcases q with ⟨e,_⟩|⟨o,e,_⟩
  ·exact .inl e
  ·exact .inr ⟨o,e⟩
 obtain⟨z,hsy,vs,rel,dd⟩:=b6w I1.hok rd;obtain⟨o,es,ep,go,ex,hd,r'⟩:=id dd;have hm:s1.heap.DictAt (a1s X.prog X.w) a vs ep:=⟨o,es,go,ex,hd,r'⟩;refine wpAny_pyIter_dict (knd:=a1s X.prog X.w) (d:=a) (kvs:=vs) (ep:=ep) hsy hm ?_;have I3:∀H2,Inv X pins σ H2 s1->Inv X pins σ H2 { s1 with heap:=s1.heap.push { cls:=.type "dict_keyiterator",data:=.fields #[.ref a,.int 0 0,.int vs.length 0,.int ep 0] } }:=fun H2 J=>J.kept (t':=s1.toks) fun b ob e=>Heap.get?_push_of_some _ e;have hln:vs.length=kvs.length:=rel.length.symm
 have st:∀i,i=0->(s1.heap.push { cls:=.type "dict_keyiterator",data:=.fields #[.ref a,.int 0 0,.int vs.length 0,.int ep 0] }).IsKeyIter s1.heap.objs.size a i kvs.length ep/\i<=kvs.length:=fun i hi=>by
  subst hi;refine⟨⟨_,Heap.get?_push_size _ rfl,rfl,?_⟩,A1v _⟩;rw[hln];rfl
 rcases q with ⟨e,q⟩|⟨o2,e,q⟩
 ·have J:=I1.freeze e go;refine⟨s1.heap.objs.size,[s1.heap.objs.size],_,_,_,rfl,I3 _ J,turn_keys a _ o kvs hd,st 0 rfl,fun b hb=>?_,q o⟩;have e:b=s1.heap.objs.size:=by simpa using hb
  subst e;exact J.fpOk (A0f _) (J.hok.fresh (A0f _))
 ·have x:s1.heap.get? a=some o2:=(show s1.heap.get? a=some o2/\_ from I1.hok a _ e).1;rw[go] at x;cases x;refine⟨s1.heap.objs.size,[s1.heap.objs.size],_,_,_,rfl,I3 _ I1,turn_keys a _ o kvs hd,st 0 rfl,fun b hb=>?_,q⟩;have e:b=s1.heap.objs.size:=by simpa using hb
  subst e;exact I1.fpOk (A0f _) (I1.hok.fresh (A0f _))
end
section
variable {K:A0a}{tl:TE}{tt:TT}{te:TE}{Q:VK}{σ:St}{H:Hp}{a b:Addr}{kvs:List (Key×V)}{g:TG}{tb:TS}{D:c1z}
theorem st_cpK (e:∀P:V->Hp->Prop,P (.ref a) H->tl σ H P)(h:H a=some (.dK kvs))(hn:kvs.length<=1000)(Pv:Obj->Nat->List V->Hp->Prop)
  (h0:∀o,Pv o 0 [] (upd H a (.frz o (.dK kvs)))) (hl:∀o i ys H,Pv o i ys H->ys.length<=i) (hk:∀o i ys H,Pv o i ys H->H a=some (.frz o (.dK kvs)))
  (hs:∀o i k v ys H,kvs[i]? = some (k,v)->Pv o i ys H->tt (some (kV k)::σ) H fun b H2=>if b=true then te (some (kV k)::σ) H2 fun y H3=>Pv o (i+1) (ys++[y]) H3 else Pv o (i+1) ys H2)
  (hd:∀o ys H,Pv o kvs.length ys H->∀p,H p=none->Q (.ref p) (upd (upd H p (.lst ys)) a (.dK kvs))):tThawE (c4q (iKeys tl) tt te) σ H Q:=by
 refine⟨a,kvs,h,e _ ⟨a,kvs,rfl,.inl ⟨h,fun o=>⟨fun i m ys H=>m=kvs.length-i/\i<=kvs.length/\Pv o i ys H,⟨kvs.length,by simp,A1v _,h0 o⟩,?_⟩⟩⟩⟩;rintro i m ys H ⟨rfl,hi,p⟩
 by_cases hlt:i<kvs.length
 ·refine .inr ⟨⟨hk o i ys H p,hlt⟩,a5r (by have:=hl o i ys H p;omega),Pv o (i+1),fun σ' H' p'=>⟨kvs.length-(i+1),by omega,rfl,hlt,p'⟩,fun x H' y=>?_⟩;obtain⟨rfl,k,v,rfl,hx⟩:=y;exact hs o i k v ys _ hx p
 ·have e:i=kvs.length:=by omega
  subst e;refine .inl ⟨⟨hk o _ ys H p,A0f _⟩,fun q hq=>⟨o,?_,hd o ys H p q hq⟩⟩;rw[a0q (a0p (hk o _ ys H p) hq)];exact hk o _ ys H p
theorem st_dget {td ty:TE}(h:td σ H fun x H1=>ty σ H1 fun y H2=>∃a v,x=.ref a/\DGet H2 a y (some v)/\Q v H2):tDGet td ty σ H Q:=h
end
end L2
namespace Tw
open PySem L2
def gm (p q:Int×Int):Int×Int:=(p.1*q.1-p.2*q.2,p.1*q.2+p.2*q.1)
theorem sq_ne {p:Int×Int}(h:p≠(0,0)):p.1*p.1+p.2*p.2≠0:=fun z=>h (by
 have e1:((p.1.natAbs*p.1.natAbs:Nat):Int)=p.1*p.1:=Int.natAbs_mul_self;have e2:((p.2.natAbs*p.2.natAbs:Nat):Int)=p.2*p.2:=Int.natAbs_mul_self;rw[<- e1,<- e2] at z;have z1:p.1.natAbs*p.1.natAbs=0:=by omega
 have z2:p.2.natAbs*p.2.natAbs=0:=by omega
 have y1:p.1.natAbs=0:=by rcases Nat.mul_eq_zero.mp z1 with y|y<;>exact y
 have y2:p.2.natAbs=0:=by rcases Nat.mul_eq_zero.mp z2 with y|y<;>exact y
 exact A5t (by show p.1=0;omega) (by show p.2=0;omega))
def wv (ws:Wh)(b:Nat):Int×Int:=(wat ws b).getD (0,0)
end Tw
namespace L2
open PySem PySem.Spec PyProof.Rows
variable {kvs:List (Key×V)}{ns:List Int}
section
variable {prog:Program}{w:World}{A:Around}{E:Value->Shared->Prop}{s:Shared}{K:Type} [DecidableEq K]{knd:KeyKind prog w K}{d:Addr}{kvs:List (K×Value)}{ep:Nat}
theorem c8m {Q:List Value->Shared->Prop}(hh:A.handled=none)(lo:(d==sysModules)=false)(hm:s.heap.DictAt knd d kvs ep)(hn:kvs.length<=sizeLine)
  (h:∀(h':Heap) (tk:Nat) (vs:List Value),(∀b o,s.heap.get? b=some o->h'.get? b=some o)->s.heap.objs.size<=h'.objs.size->vs.length=kvs.length->(∀(j:Nat) (v:Value),vs[j]? = some v->∃k x,kvs[j]? = some (k,x)/\knd.is k v=true)->Q vs { s with heap:=h',toks:=tk }) :
  wpAny (model prog w) A (collect (.ref d)) Q E s:=by
 unfold collect;refine A0b (wpAny_runValue (codeAny_builtin entry_proto_collect' ?_));show wpAny _ _ (do again (.builtin "list.__iadd__" ⟨[<- newList [],.ref d],[]⟩)) _ _ s;refine A0b (wpAny_newList (A0h ⟨Code.quiet_builtin _ (by decide +kernel),codeAny_builtin entry_list_iadd' ?_⟩));show wpAny _ _ (Builtin.List.listExtendWith (.ref s.heap.objs.size) (.ref d) (.ref s.heap.objs.size)) _ _ { s with heap:=s.heap.push (seqObj "list" #[] 0) };have hlt:=hm.lt_size;rw[Around.under_plainId (show plainId "list.__iadd__" = true by decide +kernel)]
 refine PySem.W.kdl_extend (R:=fun r s'=>match r with
   | .ok (.ret v)=>wpAny (model prog w) A (match v with
    | .ref a=>do
     let o <- load a
     match o.data with
     | .seq xs _=>pure xs.toList
     | _=>unsupported "internal:collect"
    | _=>unsupported "internal:collect") Q E s'
   | .ok _=>False
   | .error e=>E e s') (s:={ s with heap:=s.heap.push (seqObj "list" #[] 0) }) (PySem.W.kdl_dict (knd:=knd) (kvs:=kvs) (ep:=ep) lo) hh (hm.push _) _ (B1g hlt) (B1g hlt) _ 0 (Heap.get?_push_size _ rfl) (fun h' tk acc' c' hk hS' hacc=>?_) hn
 show wpAny (model prog w) A (do
   let o <- load s.heap.objs.size
   match o.data with
   | .seq xs _=>pure xs.toList
   | _=>unsupported "internal:collect") Q E { s with heap:=h',toks:=tk }
 refine A0b (wpAny_load hS' ?_);show wpAny _ _ (pure acc'.toList) Q E _;refine A0h (h h' tk acc'.toList (fun b o e=>hk b o (A1j (A0n e)) (Heap.get?_push_of_some _ e)) (A4h (A0n hS')) (by rw[A2g];exact hacc.1) fun j v e=>hacc.2 j v (by rw[<- Array.getElem?_toList];exact e))
end
theorem ints_vals:∀{vs:List Value} {ns:List Int},IntsAre vs ns->a5f (ns.map V.int) vs
 | _,_,.nil=>.nil
 | _,_,.cons n t r=>.cons ⟨t,rfl⟩ (ints_vals r)
theorem ints_by:∀{vs:List Value} {ns:List Int},vs.length=ns.length->(∀(j:Nat) (v:Value) (n:Int),vs[j]? = some v->ns[j]? = some n->∃t,v=.int n t)->IntsAre vs ns
 | [],[],_,_=>.nil
 | v::vs,n::ns,hl,h=>by
  obtain⟨t,rfl⟩:=h 0 v n rfl rfl;exact .cons n t (ints_by (A9n hl) fun j v n e1 e2=>h (j+1) v n e1 e2)
 | [],_::_,hl,_=>by cases hl
 | _::_,[],hl,_=>by cases hl
def KInts (kvs:List (Key×V))(ns:List Int):Prop:=kvs.map (·.1)=ns.map A8g
theorem d5j {vs:List (Key×Value)}(h:KInts kvs ns)(rel:KV kvs vs){P:Program}{w:World}{j:Nat}{k:Key}{x v:Value}{n:Int}(e1:vs[j]? = some (k,x))(e2:(a1s P w).is k v=true)(e3:ns[j]? = some n):∃t,v=.int n t:=by
 have hv:vs.map (·.1)=ns.map A8g:=(rel.keys).symm.trans h
 have e4:(vs.map (·.1))[j]? = some k:=by rw[List.getElem?_map,e1];rfl
 rw[hv,List.getElem?_map,e3] at e4;have e5:k=.inl n:=(A0j e4).symm;subst e5;exact key_rel e2
theorem kints_len (h:KInts kvs ns):kvs.length=ns.length:=by
 have:=congrArg List.length h;rw[A0c,A0c] at this;exact this
section
variable {X:Cx}
def rBestD (le:Int->Int->Prop):List V->Hp->VK->Prop:=fun xs H Q=>∃a kvs ns,xs=[V.ref a]/\Rd H a (.dK kvs)/\KInts kvs ns/\0<ns.length/\∀M,M∈ns->(∀a∈ns,le a M)->Q (.int M) H
theorem call_minD (hc:X.calm=true):b3k X (.builtin "min") (rBestD fun a M=>M<=a):=by
 intro pins s σ H xs us Q I r h;obtain⟨a,kvs,ns,rfl,ha,hk,hne,q⟩:=h;obtain⟨u,rfl,ru⟩:=vals1 r;cases ru;obtain⟨z,lo,vs,rel,dd⟩:=b6w I.hok ha;obtain⟨ep,hm⟩:=dd.dictAt;have hlt:=hm.lt_size;have hl1:=kints_len hk;have hl2:vs.length=kvs.length:=rel.length.symm;refine call_min_walk (wpAny_pyIter_dict (knd:=a1s X.prog X.w) lo hm ?_);refine⟨_,[_,a],[_],_,_,_,_,rfl,Walks.dictKeys (A:=X.A.in1) (I.ok.hd hc) _ a (A1j hlt) vs ep,⟨⟨_,Heap.get?_push_size _ rfl,rfl,rfl⟩,hm.push _⟩,fun c hc'=>?_,by omega,CmpOf.ints_lt (fun i=>ns.getD i 0) (fun i v hP=>?_),fun v h' tk hP hk'=>?_⟩
 ·show c<(s.heap.push _).objs.size;rw[A5e]
  rcases List.mem_cons.mp hc' with rfl|hc'
  ·exact A3t _
  ·rcases List.mem_cons.mp hc' with rfl|hc'
   ·exact A5x hlt
   ·cases hc'
 ·obtain⟨k,x,e1,e2⟩:=hP
  have hi:i<ns.length:=by
   have:=(List.getElem?_eq_some_iff.mp e1).1;omega
  refine d5j hk rel e1 e2 ?_;rw[List.getD_eq_getElem?_getD,List.getElem?_eq_getElem hi];rfl
 ·obtain⟨b1,b2⟩:=argBest_lt (fun i=>ns.getD i 0) (vs.length-1);obtain⟨k,x,e1,e2⟩:=hP
  have hi:argBest (fun i j=>decide (ns.getD i 0<ns.getD j 0)) (vs.length-1)<ns.length:=by
   have:=(List.getElem?_eq_some_iff.mp e1).1;omega
  obtain⟨t,rfl⟩:=d5j hk rel (n:=ns.getD (argBest (fun i j=>decide (ns.getD i 0<ns.getD j 0)) (vs.length-1)) 0) e1 e2 (by rw[List.getD_eq_getElem?_getD,List.getElem?_eq_getElem hi];rfl);refine⟨.int _,H,I.kept (t':=tk) (fun b o e=>hk' b o (fun hm=>?_) (Heap.get?_push_of_some _ e)),⟨t,rfl⟩,q _ (getD_mem hi) fun a ha=>?_⟩
  ·rcases List.mem_cons.mp hm with e1|hm
   ·exact absurd (e1▸A0n e) (A2v _)
   ·cases hm
  ·obtain⟨j,hj,rfl⟩:=mem_getD ha;exact b2 j (by omega)
end
section
variable {X:Cx}{pins:List (Addr×Obj)}{σ:St}{H:Hp}{s:Shared}{a b:Addr}{kvs kvs2:List (Key×V)}{f g:Key->PyData}
end
end L2
namespace Tw
open PySem L2
def kz (ws:Wh):List Int:=ws.map fun e=>((e.1:Nat):Int)
theorem kz_len (ws:Wh):(kz ws).length=ws.length:=by unfold kz;rw[A0c]
theorem kz_mem {ws:Wh}{x:Int}:x∈kz ws ↔ ∃b∈ws.map (·.1),x=((b:Nat):Int):=by
 unfold kz
 constructor
 ·intro h;obtain⟨e,he,rfl⟩:=List.mem_map.mp h;exact⟨e.1,List.mem_map.mpr ⟨e,he,rfl⟩,rfl⟩
 ·rintro⟨b,hb,rfl⟩;obtain⟨e,he,rfl⟩:=List.mem_map.mp hb;exact List.mem_map.mpr ⟨e,he,rfl⟩
section
variable {K:A0a}{H:Hp}{Q:VK}{ws us:Wh}{kvs:List (Key×V)}{a b:Addr}
theorem WR.here (h:WR K H ws kvs){b:Nat}(hb:b∈ws.map (·.1)):∃t,atZ kvs ((b:Nat):Int)=some (.ref t)/\SqT K H t [.int (wv ws b).1,.int (wv ws b).2]:=by
 rcases h.val b with ⟨_,e2⟩|⟨t,p,e1,e2,e3⟩
 ·have:=d6m hb;rw[e2] at this;cases this
 ·refine⟨t,e1,?_⟩;unfold wv;rw[e3];exact e2
theorem WR.kints (h:WR K H ws kvs):KInts kvs (kz ws):=by
 unfold KInts kz;rw[h.keys,A3q,A3q];rfl
theorem WR.dget (h:WR K H ws kvs)(r:Rd H a (.dK kvs)){b:Nat}(hb:b∈ws.map (·.1)):∃t,DGet H a (.int ((b:Nat):Int)) (some (.ref t))/\SqT K H t [.int (wv ws b).1,.int (wv ws b).2]:=by
 obtain⟨t,e,s⟩:=h.here hb;refine⟨t,?_,s⟩;have:=dget_z (i:=((b:Nat):Int)) r;rw[e] at this;exact this
theorem dec_pair (p q:Int×Int):decide ([p.1,p.2]=[q.1,q.2])=decide (p=q):=by
 by_cases h:p=q
 ·subst h;rw[decide_eq_true rfl,decide_eq_true rfl]
 ·rw[decide_eq_false h,decide_eq_false];intro z
  injection z with z1 z2
  injection z2 with z2
  exact h (A5t z1 z2)
end
end Tw
namespace L2
open PySem PySem.Spec PyProof.Rows
variable {K:A0a}{a:Addr}{H:Hp}{σ:St}{te:TE}{tt:TT}{Q:VK}
def sCompK (K:A0a)(tt:TT)(te:TE)(σ:St)(Q:VK):V->Hp->Prop:=fun x H=>∃a,x=.ref a/\(∃xs,SqL K H a xs)/\∃W:Nat->Nat->List V->Hp->Prop,(∃m,W 0 m [] H)/\∀i m ys H,W i m ys H->((Itl K a).stop i H/\∀p,H p=none->Q (.ref p) (upd H p (.lst ys)))\/
   ((Itl K a).go i H/\ys.length<sizeLine/\∃N:List V->Hp->Prop,(∀ys' H',N ys' H'->∃m',m'<m/\W (i+1) m' ys' H')/\
    ∀x H',(Itl K a).yld i H x H'->tt (some x::σ) H' fun b H2=>if b=true then te (some x::σ) H2 fun y H3=>N (ys++[y]) H3 else N ys H2)
theorem st_cqE {tl:TE}(h:tl σ H (sCompK K tt te σ Q)):c4q (iList K tl) tt te σ H Q:=h
theorem c9f {xs:List V}(s:SqL K H a xs)(Pv:Nat->List V->Hp->Prop)(hn:xs.length<=1000)(h0:Pv 0 [] H)(hl:∀i ys H,Pv i ys H->ys.length<=i)(hk:∀i ys H,Pv i ys H->SqL K H a xs)
  (hs:∀i x ys H,xs[i]? = some x->Pv i ys H->tt (some x::σ) H fun b H2=>if b=true then te (some x::σ) H2 fun y H3=>Pv (i+1) (ys++[y]) H3 else Pv (i+1) ys H2)
  (hd:∀ys H,Pv xs.length ys H->∀p,H p=none->Q (.ref p) (upd H p (.lst ys))):sCompK K tt te σ Q (.ref a) H:=⟨a,rfl,⟨xs,s⟩,d6f Pv hn h0 hl hk hs hd⟩
theorem rNeD_intsL {b:Addr}{is js:List Int}(ha:SqL K H a (is.map V.int))(hb:SqL K H b (js.map V.int))(q:Q (.bl (!decide (is=js))) H):rNeD K (.ref a) (.ref b) H Q:=
 ⟨_,_,.lst ha (a7y is),.lst hb (a7y js),A5h is,A5h js,by rw[A2q,b6p];exact q⟩
end L2
namespace Tw
open PySem L2
variable {k:DK}{l m vs:List Nat}{rs us:List Row}{a b i w x:Nat}{r s:Row}
def a4f:List Nat->Nat->Nat
 | [],_=>0
 | v::vs,w=>(if w.testBit 0=true then v else 0)^^^a4f vs (w/2)
theorem a6r:∀vs:List Nat,a4f vs 0=0
 | []=>rfl
 | v::vs=>by
  show (if (0:Nat).testBit 0=true then v else 0)^^^a4f vs (0/2)=0;rw[Nat.zero_div,a6r vs,if_neg (by decide)];rfl
theorem if_xor (a b:Bool)(v:Nat):(if (a ^^ b)=true then v else 0)=(if a=true then v else 0)^^^(if b=true then v else 0):=by
 cases a<;>cases b<;>simp
theorem x4 (a b c d:Nat):(a^^^b)^^^(c^^^d)=(a^^^c)^^^(b^^^d):=by
 rw[A0q,A0q]
 congr 1
 rw[<- A0q,<- A0q,A4m b c]
theorem b1u:∀(vs:List Nat) (a b:Nat),a4f vs (a^^^b)=a4f vs a^^^a4f vs b
 | [],_,_=>(A1g 0).symm
 | v::vs,a,b=>by
  show (if (a^^^b).testBit 0=true then v else 0)^^^a4f vs ((a^^^b)/2)=_;rw[A0e,if_xor,show (a^^^b)/2=(a/2)^^^(b/2) from Nat.xor_div_two,b1u vs];exact x4 _ _ _ _
theorem b5q:∀(vs:List Nat) (v w:Nat),a4f (vs++[v]) w=a4f vs w^^^(if w.testBit vs.length=true then v else 0)
 | [],v,w=>by
  show (if w.testBit 0=true then v else 0)^^^0=0^^^_;rw[A1c,A3c];rfl
 | u::vs,v,w=>by
  show (if w.testBit 0=true then u else 0)^^^a4f (vs++[v]) (w/2)=((if w.testBit 0=true then u else 0)^^^a4f vs (w/2))^^^_;rw[b5q vs v (w/2),A0q]
  congr 2
  rw[A1a,Nat.testBit_succ]
theorem c6t:∀{vs:List Nat} {k v:Nat},vs[k]? = some v->a4f vs (2^k)=v
 | [],_,_,h=>by cases h
 | u::vs,0,v,h=>by
  obtain rfl:u=v:=A0j h;show (if (2^0:Nat).testBit 0=true then u else 0)^^^a4f vs ((2^0)/2)=u;rw[show (2^0:Nat)/2=0 from rfl,a6r,A1c];rfl
 | u::vs,k+1,v,h=>by
  show (if (2^(k+1):Nat).testBit 0=true then u else 0)^^^a4f vs ((2^(k+1))/2)=v;rw[show (2^(k+1):Nat)/2=2^k by rw[A2w];omega,c6t (show vs[k]? = some v from h),show (2^(k+1):Nat).testBit 0=false by rw[A3g,A2w];simp];simp
theorem d4x {j:Nat}:∀{vs:List Nat} (w:Nat),(∀v∈vs,v.testBit j=false)->(a4f vs w).testBit j=false
 | [],_,_=>A3z _
 | v::vs,w,h=>by
  show (_^^^a4f vs (w/2)).testBit j=false;rw[A0e,d4x (w/2) fun u hu=>h u (A0d _ hu)];have:=h v A0k
  split<;>simp[this]
theorem d5y {n:Nat}:∀{vs:List Nat} (w:Nat),(∀v∈vs,v<2^n)->a4f vs w<2^n
 | [],_,_=>A1m n
 | v::vs,w,h=>by
  refine A0z ?_ (d5y (w/2) fun u hu=>h u (A0d _ hu))
  split
  ·exact h v A0k
  ·exact A1m n
structure Sm where
 j:Nat
 t:Nat
 p:Nat
def red:List Sm->Nat->Nat->Nat×Nat
 | [],l,w=>(l,w)
 | s::r,l,w=>if l.testBit s.j=true then red r (l^^^s.t) (w^^^s.p) else red r l w
def Tot (ss:List Sm)(x:Nat):Prop:=∃m,a4f (ss.map Sm.t) m=x
theorem Tot.zero (ss:List Sm):Tot ss 0:=⟨0,a6r _⟩
theorem Tot.xor {ss:List Sm}{y:Nat}(a:Tot ss x)(b:Tot ss y):Tot ss (x^^^y):=by
 obtain⟨m,rfl⟩:=a;obtain⟨k,rfl⟩:=b;exact⟨m^^^k,b1u _ _ _⟩
theorem Tot.mem {ss:List Sm}{s:Sm}(h:s∈ss):Tot ss s.t:=by
 obtain⟨k,hk⟩:=List.getElem?_of_mem h;exact⟨2^k,c6t (by rw[List.getElem?_map,hk];rfl)⟩
theorem Tot.snoc {ss:List Sm}(s:Sm)(h:Tot ss x):Tot (ss++[s]) x:=by
 obtain⟨m,rfl⟩:=h;refine⟨m%2^ss.length,?_⟩;rw[A1b,List.map_singleton,b5q,A0c,A5c];simp only[A2v,decide_false,A2x,A2b,if_false,A1c];rw[<- A0c (as:=ss) (f:=Sm.t)];generalize ss.map Sm.t=vs
 induction vs generalizing m with
 | nil=>rfl
 | cons v vs ih=>
  show (if (m%2^(vs.length+1)).testBit 0=true then v else 0)^^^a4f vs (m%2^(vs.length+1)/2)=(if m.testBit 0=true then v else 0)^^^a4f vs (m/2);have h1:(m%2^(vs.length+1)).testBit 0=m.testBit 0:=by rw[A5c];simp
  have h2:m%2^(vs.length+1)/2=(m/2)%2^vs.length:=by
   rw[A2w,B1s,Nat.mod_mul_right_div_self]
  rw[h1,h2,ih]
structure SpOk (vs:List Nat)(ss:List Sm):Prop where
 tot:∀s∈ss,s.t=a4f vs s.p
 lt:∀s∈ss,s.p<2^vs.length
 bit:∀s∈ss,s.t.testBit s.j=true
 ord:ss.Pairwise fun a b=>b.t.testBit a.j=false
 cov:∀w,Tot ss (a4f vs w)
theorem red_ok {vs:List Nat}:∀{ss:List Sm} {l w:Nat},(∀s∈ss,s.t=a4f vs s.p)->(∀s∈ss,s.p<2^vs.length)->∃p,p<2^vs.length/\(red ss l w).1=l^^^a4f vs p/\(red ss l w).2=w^^^p/\Tot ss (a4f vs p)
 | [],l,w,_,_=>⟨0,A1m _,by rw[a6r,A1c];rfl,by rw[A1c];rfl,by rw[a6r];exact Tot.zero _⟩
 | s::r,l,w,h1,h2=>by
  have g1:∀t∈r,t.t=a4f vs t.p:=fun t ht=>h1 t (A0d _ ht);have g2:∀t∈r,t.p<2^vs.length:=fun t ht=>h2 t (A0d _ ht)
  have up:∀{x},Tot r x->Tot (s::r) x:=fun {x} ⟨m,e⟩=>⟨2*m,by
   show (if (2*m).testBit 0=true then s.t else 0)^^^a4f (r.map Sm.t) (2*m/2)=x;rw[A7b _ (by decide),e,show (2*m).testBit 0=false by simp[A3g]]
   simp⟩
  unfold red
  split
  ·obtain⟨p,a1,a2,a3,a4⟩:=red_ok (l:=l^^^s.t) (w:=w^^^s.p) g1 g2;refine⟨s.p^^^p,A0z (h2 s A0k) a1,?_,?_,?_⟩
   ·rw[a2,b1u,<- h1 s A0k,A0q]
   ·rw[a3,A0q]
   ·rw[b1u,<- h1 s A0k];exact(Tot.mem A0k).xor (up a4)
  ·obtain⟨p,a1,a2,a3,a4⟩:=red_ok (l:=l) (w:=w) g1 g2;exact⟨p,a1,a2,a3,up a4⟩
theorem b8z {j:Nat}:∀{ss:List Sm} {l w:Nat},(∀s∈ss,s.t.testBit j=false)->l.testBit j=false->((red ss l w).1).testBit j=false
 | [],_,_,_,h=>h
 | s::r,l,w,h1,h=>by
  unfold red
  split
  ·exact b8z (fun t ht=>h1 t (A0d _ ht)) (by rw[A0e,h,h1 s A0k];rfl)
  ·exact b8z (fun t ht=>h1 t (A0d _ ht)) h
theorem c6q:∀{ss:List Sm} {l w:Nat},(∀s∈ss,s.t.testBit s.j=true)->ss.Pairwise (fun a b=>b.t.testBit a.j=false)->∀s∈ss,((red ss l w).1).testBit s.j=false
 | [],_,_,_,_,s,hs=>by cases hs
 | u::r,l,w,h1,h2,s,hs=>by
  obtain⟨o1,o2⟩:=List.pairwise_cons.1 h2;have g1:∀t∈r,t.t.testBit t.j=true:=fun t ht=>h1 t (A0d _ ht);unfold red
  rcases A3a.1 hs with rfl|hs
  ·split
   ·rename_i hb;exact b8z o1 (by rw[A0e,hb,h1 s A0k];rfl)
   ·rename_i hb;exact b8z o1 (by simpa using hb)
  ·split
   ·exact c6q g1 o2 s hs
   ·exact c6q g1 o2 s hs
theorem tot_zero:∀{ss:List Sm} {x:Nat},(∀s∈ss,s.t.testBit s.j=true)->ss.Pairwise (fun a b=>b.t.testBit a.j=false)->Tot ss x->(∀s∈ss,x.testBit s.j=false)->x=0
 | [],x,_,_,⟨m,e⟩,_=>e.symm
 | u::r,x,h1,h2,⟨m,e⟩,h3=>by
  obtain⟨o1,o2⟩:=List.pairwise_cons.1 h2;have e':(if m.testBit 0=true then u.t else 0)^^^a4f (r.map Sm.t) (m/2)=x:=e
  have hy:(a4f (r.map Sm.t) (m/2)).testBit u.j=false:=d4x _ fun v hv=>by
   obtain⟨t,ht,rfl⟩:=A1k.1 hv;exact o1 t ht
  have hx:=h3 u A0k
  by_cases hb:m.testBit 0=true
  ·rw[if_pos hb] at e';rw[<- e',A0e,hy,h1 u A0k] at hx;cases hx
  ·rw[if_neg hb,A3c] at e';exact tot_zero (fun t ht=>h1 t (A0d _ ht)) o2 ⟨m/2,e'⟩ fun s hs=>h3 s (A0d _ hs)
theorem SpOk.nil:SpOk [] []:=⟨fun _ h=>(nomatch h),fun _ h=>(nomatch h),fun _ h=>(nomatch h),.nil,fun w=>⟨0,rfl⟩⟩
theorem SpOk.take {ss:List Sm}(h:SpOk vs ss)(v j:Nat)(hj:(red ss v (2^vs.length)).1≠0->(red ss v (2^vs.length)).1.testBit j=true) :
  SpOk (vs++[v]) (if (red ss v (2^vs.length)).1≠0 then ss++[⟨j,(red ss v (2^vs.length)).1,(red ss v (2^vs.length)).2⟩] else ss):=by
 obtain⟨p,p1,p2,p3,p4⟩:=red_ok (l:=v) (w:=2^vs.length) h.tot h.lt;have hf:=c6q (l:=v) (w:=2^vs.length) h.bit h.ord;generalize hl:(red ss v (2^vs.length)).1=l at *
 generalize hw:(red ss v (2^vs.length)).2=w at *
 have hp:p.testBit vs.length=false:=A2k p1
 have up:∀q,q<2^vs.length->a4f (vs++[v]) q=a4f vs q:=fun q hq=>by
  rw[b5q,A2k hq];simp
 have ol:∀s∈ss,s.t=a4f (vs++[v]) s.p:=fun s hs=>by rw[up _ (h.lt s hs)];exact h.tot s hs
 have ll:∀s∈ss,s.p<2^(vs++[v]).length:=fun s hs=>A0g (h.lt s hs) (A0w (by decide) (by simp));have hv:v=l^^^a4f vs p:=by rw[p2,A0q,A1g,A1c]
 have cov:∀(ss':List Sm),(∀x,Tot ss x->Tot ss' x)->Tot ss' v->∀q,Tot ss' (a4f (vs++[v]) q):=fun ss' g1 g2 q=>by
  rw[b5q];refine(g1 _ (h.cov q)).xor ?_
  split
  ·exact g2
  ·exact Tot.zero _
 split
 ·rename_i hne;have hwp:w=2^vs.length^^^p:=p3
  have hnew:l=a4f (vs++[v]) w:=by
   rw[hwp,b1u,up _ p1,b5q]
   have e0:a4f vs (2^vs.length)=0:=by
    have:∀(us:List Nat),a4f us (2^us.length)=0:=fun us=>by
     induction us with
     | nil=>rfl
     | cons u us ih=>
      show (if (2^(us.length+1):Nat).testBit 0=true then u else 0)^^^a4f us ((2^(us.length+1))/2)=0;rw[show (2^(us.length+1):Nat)/2=2^us.length by rw[A2w];omega,ih,show (2^(us.length+1):Nat).testBit 0=false by rw[A3g,A2w];simp];simp
    exact this vs
   rw[e0,A3x,if_pos rfl,A3c];exact p2
  refine⟨fun s hs=>?_,fun s hs=>?_,fun s hs=>?_,?_,cov _ (fun x hx=>hx.snoc _) ?_⟩
  ·rcases A1q.1 hs with hs|hs
   ·exact ol s hs
   ·rw[A0t.1 hs];exact hnew
  ·rcases A1q.1 hs with hs|hs
   ·exact ll s hs
   ·rw[A0t.1 hs];show w<_;rw[hwp,A0s,A7t];exact A0z (A1r (by decide) (A3t _)) (A0g p1 (A0w (by decide) (B2j _)))
  ·rcases A1q.1 hs with hs|hs
   ·exact h.bit s hs
   ·rw[A0t.1 hs];exact hj hne
  ·rw[List.pairwise_append];exact⟨h.ord,List.pairwise_singleton _ _,fun a ha b hb=>by rw[A0t.1 hb];exact hf a ha⟩
  ·have t1:Tot (ss++[⟨j,l,w⟩]) l:=Tot.mem (s:=⟨j,l,w⟩) (by simp);have t2:=t1.xor ((Tot.snoc ⟨j,l,w⟩ p4));rw[hv];exact t2
 ·rename_i hz;have l0:l=0:=by simpa using hz
  refine⟨ol,ll,h.bit,h.ord,cov _ (fun x hx=>hx) ?_⟩;rw[hv,l0,A3c];exact p4
theorem SpOk.left {ss:List Sm}(h:SpOk vs ss)(x:Nat):(red ss x 0).2<2^vs.length/\((red ss x 0).1=0->a4f vs (red ss x 0).2=x)/\((red ss x 0).1≠0->∀q,a4f vs q≠x):=by
 obtain⟨p,p1,p2,p3,p4⟩:=red_ok (l:=x) (w:=0) h.tot h.lt;have hf:=c6q (l:=x) (w:=0) h.bit h.ord;rw[A3c] at p3;refine⟨by rw[p3];exact p1,fun h0=>?_,fun h0 q e=>h0 ?_⟩
 ·rw[p3];rw[h0] at p2;have:=congrArg (· ^^^ a4f vs p) p2
  simp only[A0q,A1g,A1c,A3c] at this;exact this
 ·refine tot_zero h.bit h.ord ?_ hf;rw[p2];refine Tot.xor ?_ p4;rw[<- e];exact h.cov q
def pb (u:Nat):Bool:=decide (pop u%2=1)
theorem b9k (u v:Nat):pb (u^^^v)=(pb u ^^ pb v):=by
 unfold pb;have h:=a9f u v;have h1:=A2e (pop u);have h2:=A2e (pop v);rw[Nat.add_mod] at h
 rcases h1 with h1|h1<;>rcases h2 with h2|h2<;>rw[h,h1,h2]<;>decide
theorem c1r:pb 0=false:=by unfold pb;rw[a7z];rfl
theorem pop_pow (i:Nat):pop (2^i)=1:=by
 induction i with
 | zero=>rw[b3a,show (2^0:Nat)/2=0 from rfl,a7z]
 | succ i ih=>
  have h:(2^(i+1):Nat)/2=2^i:=by rw[A2w];omega
  have h2:(2^(i+1):Nat)%2=0:=by rw[A2w];omega
  rw[b3a,h,ih,h2]
theorem and_pow (u i:Nat):u&&&2^i=(u.testBit i).toNat*2^i:=by
 apply A0p;intro q;rw[A2f,A2j,a3z]
 by_cases h:i=q
 ·subst h;simp
 ·simp[h]
theorem d2f (b:Bool)(i:Nat):pb (b.toNat*2^i)=b:=by
 cases b
 ·simp[c1r]
 ·unfold pb;simp[pop_pow]
theorem b6t (u:Nat)(b:Bool)(i:Nat):u&&&b.toNat*2^i=(b&&u.testBit i).toNat*2^i:=by
 cases b
 ·simp
 ·rw[A4x,A8t,and_pow,A2d]
theorem b9n (u:Nat)(b:Bool)(i:Nat):b.toNat*2^i&&&u=(b&&u.testBit i).toNat*2^i:=by rw[A0v,b6t]
def a3d (r s:Row):Bool:=pb (r.x&&&s.z) ^^ pb (r.z&&&s.x)
theorem tb_bpow (b:Bool)(i q:Nat):(b.toNat*2^i).testBit q=(b&&decide (i=q)):=by
 cases b
 ·simp
 ·rw[A4x,A8t,A2j,A2d]
theorem actW_symp {j:Nat}(hj:k.n=2->i≠j)(r s:Row):a3d (b0z k i j r) (b0z k i j s)=a3d r s:=by
 cases k with
 | over=>rfl
 | quarter=>
  simp only[a3d,b0z,a6j,a6z,b9k,b6t,b9n,d2f];generalize r.x.testBit i=a;generalize s.x.testBit i=b;generalize pb (r.x&&&s.z)=p;generalize pb (r.z&&&s.x)=q
  revert a b p q;decide
 | back=>
  simp only[a3d,b0z,a6j,a6z,b9k,b6t,b9n,d2f];generalize r.x.testBit i=a;generalize s.x.testBit i=b;generalize pb (r.x&&&s.z)=p;generalize pb (r.z&&&s.x)=q
  revert a b p q;decide
 | both=>
  simp only[a3d,b0z,a6j,a6z,b9k,b6t,b9n,d2f,A0e,tb_bpow,decide_true,A7a];generalize r.x.testBit i=a;generalize s.x.testBit i=b;generalize r.z.testBit i=c;generalize s.z.testBit i=d;generalize pb (r.x&&&s.z)=p;generalize pb (r.z&&&s.x)=q
  revert a b c d p q;decide
 | wher=>
  have h:=hj rfl;have h':¬j=i:=fun z=>h z.symm;simp only[a3d,b0z,a6j,a6z,b9k,b6t,b9n,d2f,A0e,tb_bpow,h,h',decide_false,A6f,A2u];generalize r.x.testBit i=a;generalize s.x.testBit i=b;generalize r.z.testBit j=c;generalize s.z.testBit j=d;generalize pb (r.x&&&s.z)=p;generalize pb (r.z&&&s.x)=q
  revert a b c d p q;decide
 | swap=>
  have h:=hj rfl;have h':¬j=i:=fun z=>h z.symm;simp only[a3d,b0z,ex,a6j,a6z,b9k,b6t,b9n,d2f,A0e,tb_bpow,h,h',decide_false,decide_true,A7a,A6f,A2u];generalize r.x.testBit i=a;generalize s.x.testBit i=b;generalize r.z.testBit j=c;generalize s.z.testBit j=d;generalize r.x.testBit j=a';generalize s.x.testBit j=b';generalize r.z.testBit i=c';generalize s.z.testBit i=d';generalize pb (r.x&&&s.z)=p;generalize pb (r.z&&&s.x)=q
  revert a b c d a' b' c' d' p q;decide +kernel
theorem act_symp {d:Dd}{n:Nat}(ok:d.Ok n)(r s:Row):a3d (act d r) (act d s)=a3d r s:=actW_symp (fun e=>(ok.one.2.1 e).2) r s
theorem a8h (a b:Bool)(k:Nat):(a ^^ b).toNat*2^k=a.toNat*2^k^^^b.toNat*2^k:=by
 cases a<;>cases b<;>simp
def Add3 (r s t:Row):Prop:=t.x=r.x^^^s.x/\t.z=r.z^^^s.z
theorem xx4 (a b c d:Nat):a^^^b^^^(c^^^d)=a^^^c^^^(b^^^d):=x4 a b c d
theorem actW_add {j:Nat}{t:Row}(h:Add3 r s t):Add3 (b0z k i j r) (b0z k i j s) (b0z k i j t):=by
 obtain⟨hx,hz⟩:=h;have e4:∀a b c d:Bool,((a ^^ b) ^^ (c ^^ d))=((a ^^ c) ^^ (b ^^ d)):=by decide
 cases k with
 | over=>exact⟨hx,hz⟩
 | quarter=>exact⟨hx,by simp only[b0z,hx,hz,A0e,a8h];exact xx4 _ _ _ _⟩
 | back=>exact⟨hx,by simp only[b0z,hx,hz,A0e,a8h];exact xx4 _ _ _ _⟩
 | both=>
  constructor
  ·simp only[b0z,hx,hz,A0e];rw[e4,a8h];exact xx4 _ _ _ _
  ·simp only[b0z,hx,hz,A0e];rw[e4,a8h];exact xx4 _ _ _ _
 | wher=>exact⟨by simp only[b0z,hx,hz,A0e,a8h];exact xx4 _ _ _ _,by simp only[b0z,hx,hz,A0e,a8h];exact xx4 _ _ _ _⟩
 | swap=>
  have key:∀a b:Nat,ex (a^^^b) i j=ex a i j^^^ex b i j:=fun a b=>by
   simp only[ex,A0e];rw[e4];generalize (a.testBit i ^^ a.testBit j)=u;generalize (b.testBit i ^^ b.testBit j)=v;rw[a8h,a8h,xx4 a,xx4 (a^^^u.toNat*2^i)]
  exact⟨by show ex t.x i j=ex r.x i j^^^ex s.x i j;rw[hx,key],by show ex t.z i j=ex r.z i j^^^ex s.z i j;rw[hz,key]⟩
theorem c5m:∀{ds:List Dd} {r s t:Row},Add3 r s t->Add3 (d1h ds r) (d1h ds s) (d1h ds t)
 | [],_,_,_,h=>h
 | d::ds,_,_,_,h=>c5m (ds:=ds) (actW_add h)
def Spn (l:List Nat)(v:Nat):Prop:=∃m,m<2^l.length/\a4f l m=v
theorem sp_nil (v:Nat):Spn [] v ↔ v=0:=⟨fun⟨_,_,e⟩=>e.symm,fun e=>⟨0,by decide,e.symm⟩⟩
theorem xor_flip {c:Nat}(h:a^^^b=c):b=c^^^a:=by
 rw[<- h,A4m a b,A0q,A1g,A1c]
theorem a3g (b:Nat)(l:List Nat)(v:Nat):Spn (b::l) v ↔ Spn l v\/Spn l (v^^^b):=by
 constructor
 ·rintro⟨m,hm,e⟩;have hm2:m/2<2^l.length:=by rw[A1a,A2w] at hm;omega
  have e':(if m.testBit 0=true then b else 0)^^^a4f l (m/2)=v:=e
  by_cases h:m.testBit 0=true
  ·rw[if_pos h] at e';exact .inr ⟨m/2,hm2,xor_flip e'⟩
  ·rw[if_neg h,A3c] at e';exact .inl ⟨m/2,hm2,e'⟩
 ·rintro (⟨m,hm,e⟩|⟨m,hm,e⟩)
  ·refine⟨2*m,by rw[A1a,A2w];omega,?_⟩;show (if (2*m).testBit 0=true then b else 0)^^^a4f l (2*m/2)=v;rw[A7b _ (by decide),e,show (2*m).testBit 0=false by simp[A3g]];simp
  ·refine⟨2*m+1,by rw[A1a,A2w];omega,?_⟩;show (if (2*m+1).testBit 0=true then b else 0)^^^a4f l ((2*m+1)/2)=v;rw[show (2*m+1)/2=m by omega,e,show (2*m+1).testBit 0=true by simp[A3g]];rw[if_pos rfl,A4m,A0q,A1g,A1c]
theorem xr (a b c:Nat):a^^^b^^^c=a^^^c^^^b:=by rw[A0q,A0q,A4m b c]
theorem c1h (h:l.Perm m):∀v,Spn l v ↔ Spn m v:=by
 induction h with
 | nil=>exact fun _=>Iff.rfl
 | cons x _ ih=>exact fun v=>by rw[a3g,a3g,ih,ih]
 | swap x y l=>
  intro v;rw[a3g,a3g,a3g,a3g,a3g,a3g,xr v x y]
  constructor
  ·rintro ((h|h)|(h|h))
   ·exact .inl (.inl h)
   ·exact .inr (.inl h)
   ·exact .inl (.inr h)
   ·exact .inr (.inr h)
  ·rintro ((h|h)|(h|h))
   ·exact .inl (.inl h)
   ·exact .inr (.inl h)
   ·exact .inl (.inr h)
   ·exact .inr (.inr h)
 | trans _ _ h1 h2=>exact fun v=>(h1 v).trans (h2 v)
def Ind:List Nat->Prop
 | []=>True
 | b::l=>¬Spn l b/\Ind l
theorem b6v (h:l.Perm m):Ind l->Ind m:=by
 induction h with
 | nil=>exact id
 | cons x p ih=>exact fun⟨h1,h2⟩=>⟨fun z=>h1 ((c1h p x).2 z),ih h2⟩
 | swap x y l=>
  rintro⟨h1,h2,h3⟩;refine⟨fun z=>?_,fun z=>h1 ((a3g _ _ _).2 (.inl z)),h3⟩
  rcases (a3g _ _ _).1 z with z|z
  ·exact h2 z
  ·exact h1 ((a3g _ _ _).2 (.inr (by rw[A4m];exact z)))
 | trans _ _ h1 h2=>exact fun h=>h2 (h1 h)
theorem ind_inj:∀{l:List Nat},Ind l->∀{a b:Nat},a<2^l.length->b<2^l.length->a4f l a=a4f l b->a=b
 | [],_,a,b,ha,hb,_=>by simp at ha hb;omega
 | v::l,⟨h1,h2⟩,a,b,ha,hb,e=>by
  rw[A1a,A2w] at ha hb;have e':(if a.testBit 0=true then v else 0)^^^a4f l (a/2)=(if b.testBit 0=true then v else 0)^^^a4f l (b/2):=e
  have no:∀c d,c<2^l.length->d<2^l.length->v^^^a4f l c=a4f l d->False:=fun c d hc hd z=>h1 ⟨d^^^c,A0z hd hc,by
   rw[b1u,<- z,A0q,A1g,A1c]⟩
  have key:a.testBit 0=b.testBit 0/\a4f l (a/2)=a4f l (b/2):=by
   by_cases ha0:a.testBit 0=true<;>by_cases hb0:b.testBit 0=true
   ·rw[if_pos ha0,if_pos hb0] at e';refine⟨ha0.trans hb0.symm,?_⟩;have:=congrArg (v ^^^ ·) e'
    simp only[<- A0q,A1g,A3c] at this;exact this
   ·rw[if_pos ha0,if_neg hb0,A3c] at e';exact(no _ _ (by omega) (by omega) e').elim
   ·rw[if_neg ha0,if_pos hb0,A3c] at e';exact(no _ _ (by omega) (by omega) e'.symm).elim
   ·rw[if_neg ha0,if_neg hb0,A3c,A3c] at e';exact⟨(eq_false_of_ne_true ha0).trans (eq_false_of_ne_true hb0).symm,e'⟩
  have e2:=ind_inj h2 (a:=a/2) (b:=b/2) (by omega) (by omega) key.2;have e3:=key.1;rw[A3g,A3g,decide_eq_decide] at e3;omega
theorem sp_sum (a b:Nat)(l:List Nat)(v:Nat):Spn ((a^^^b)::b::l) v ↔ Spn (a::b::l) v:=by
 rw[a3g,a3g,a3g,a3g,a3g,a3g];have e1:v^^^(a^^^b)=v^^^a^^^b:=(A0q _ _ _).symm;have e2:v^^^a^^^b^^^b=v^^^a:=by rw[A0q,A1g,A1c]
 rw[e1,e2]
 constructor
 ·rintro ((h|h)|(h|h))
  ·exact .inl (.inl h)
  ·exact .inl (.inr h)
  ·exact .inr (.inr h)
  ·exact .inr (.inl h)
 ·rintro ((h|h)|(h|h))
  ·exact .inl (.inl h)
  ·exact .inl (.inr h)
  ·exact .inr (.inr h)
  ·exact .inr (.inl h)
theorem ind_sum (h:Ind (a::b::l)):Ind ((a^^^b)::b::l):=by
 obtain⟨h1,h2,h3⟩:=h;refine⟨fun z=>h1 ?_,h2,h3⟩
 rcases (a3g _ _ _).1 z with z|z
 ·exact(a3g _ _ _).2 (.inr z)
 ·rw[A0q,A1g,A1c] at z;exact(a3g _ _ _).2 (.inl z)
theorem sn_inj {z x' z':Nat}(hx:x<2^w)(hx':x'<2^w)(h:x^^^z*2^w=x'^^^z'*2^w):x=x'/\z=z':=by
 have b1:∀{a c:Nat},a<2^w->∀i,i<w->(a^^^c*2^w).testBit i=a.testBit i:=fun {a c} ha i hi=>by
  rw[A0e,<- A3h,A3r];simp[Nat.not_le.2 hi]
 have b2:∀{a c:Nat},a<2^w->∀i,(a^^^c*2^w).testBit (w+i)=c.testBit i:=fun {a c} ha i=>by
  rw[A0e,<- A3h,A3r,A2k (A0g ha (A0w (by decide) (Nat.le_add_right _ _)))];simp
 constructor
 ·apply A0p;intro i
  rcases A4d i w with hi|hi
  ·rw[<- b1 (c:=z) hx i hi,h,b1 hx' i hi]
  ·rw[A2k (A0g hx (A0w (by decide) hi)),A2k (A0g hx' (A0w (by decide) hi))]
 ·apply A0p;intro i;rw[<- b2 (c:=z) hx i,h,b2 hx' i]
theorem mul_xor (a b k:Nat):(a^^^b)*2^k=a*2^k^^^b*2^k:=by
 rw[<- A3h,<- A3h,<- A3h];exact Nat.shiftLeft_xor_distrib
theorem sn_sel (w:Nat):∀(rs:List Row) (m:Nat),a4f (rs.map fun r=>r.x^^^r.z*2^w) m=a4f (rs.map Row.x) m^^^a4f (rs.map Row.z) m*2^w
 | [],m=>by simp[a4f]
 | r::rs,m=>by
  show (if m.testBit 0=true then r.x^^^r.z*2^w else 0)^^^a4f (rs.map fun r=>r.x^^^r.z*2^w) (m/2)=((if m.testBit 0=true then r.x else 0)^^^a4f (rs.map Row.x) (m/2))^^^((if m.testBit 0=true then r.z else 0)^^^a4f (rs.map Row.z) (m/2))*2^w;rw[sn_sel w rs (m/2),mul_xor]
  split
  ·exact x4 _ _ _ _
  ·simp
def Lsel (rs:List Row)(m:Nat)(r:Row):Prop:=a4f (rs.map Row.x) m=r.x/\a4f (rs.map Row.z) m=r.z
theorem d6k (hrs:∀s∈rs,s.x<2^w)(hr:r.x<2^w)(m:Nat):a4f (rs.map fun r=>r.x^^^r.z*2^w) m=r.x^^^r.z*2^w ↔ Lsel rs m r:=by
 rw[sn_sel]
 constructor
 ·intro h;exact sn_inj (d5y m fun v hv=>by obtain⟨s,hs,rfl⟩:=A1k.1 hv;exact hrs s hs) hr h
 ·rintro⟨h1,h2⟩;rw[h1,h2]
theorem acts_let {ds:List Dd}(hx:r.x=s.x)(hz:r.z=s.z):(d1h ds r).x=(d1h ds s).x/\(d1h ds r).z=(d1h ds s).z:=by
 have h:=c5m (ds:=ds) (r:=r) (s:=⟨0,0,0⟩) (t:=s) ⟨by rw[A1c];exact hx.symm,by rw[A1c];exact hz.symm⟩
 have h0:(d1h ds ⟨0,0,0⟩).x=0/\(d1h ds ⟨0,0,0⟩).z=0:=by
  have h:=c5m (ds:=ds) (r:=⟨0,0,0⟩) (s:=⟨0,0,0⟩) (t:=⟨0,0,0⟩) ⟨rfl,rfl⟩;exact⟨by rw[h.1,A1g],by rw[h.2,A1g]⟩
 refine⟨?_,?_⟩
 ·rw[h.1,h0.1,A1c]
 ·rw[h.2,h0.2,A1c]
def im (ds:List Dd)(v:Nat):Row:=d1h ds ⟨0,0,v⟩
theorem c6n (h:Ind l)(hb:¬Spn l b):Ind (l++[b]):=b6v (B1t (l₁:=[b]) (l₂:=l)) (show Ind (b::l) from ⟨hb,h⟩)
theorem b9d {t u:Row}(h:Add3 r s t):a3d t u=(a3d r u ^^ a3d s u):=by
 unfold a3d;rw[h.1,h.2,a6z,a6z,b9k,b9k];generalize pb (r.x&&&u.z)=a;generalize pb (s.x&&&u.z)=b;generalize pb (r.z&&&u.x)=c;generalize pb (s.z&&&u.x)=d
 revert a b c d;decide
theorem b4x (r s:Row):a3d r s=a3d s r:=by
 unfold a3d;rw[A0v r.x s.z,A0v r.z s.x];exact B2y _ _
theorem low_bit:∀v:Nat,0<v->∃j,v-(v&&&(v-1))=2^j/\v.testBit j=true:=by
 intro v
 induction v using A6x with
 | _ v ih=>
  intro hv
  by_cases h:v%2=1
  ·refine⟨0,?_,by rw[A3g];simpa using h⟩
   have e:v&&&(v-1)=v-1:=by
    have h1:(v&&&(v-1))/2=(v-1)/2:=by
     rw[c0z,show v/2=(v-1)/2 by omega,B3p]
    have h2:(v&&&(v-1))%2=0:=by
     rw[d5s,show (v-1)%2=0 by omega,Nat.mul_zero]
    omega
   rw[e];show v-(v-1)=1;omega
  ·obtain⟨j,e,b⟩:=ih (v/2) (by omega) (by omega);refine⟨j+1,?_,by rw[Nat.testBit_succ];exact b⟩
   have h1:(v&&&(v-1))/2=v/2&&&(v/2-1):=by
    rw[c0z,show (v-1)/2=v/2-1 by omega]
   have h2:(v&&&(v-1))%2=0:=by
    rw[d5s,show v%2=0 by omega,Nat.zero_mul]
   have h3:v/2&&&(v/2-1)<=v/2:=A8u;rw[A2w,<- e];omega
def tmq (r s:Row):Int:=(pop (r.x&&&r.z):Int)+(pop (s.x&&&s.z):Int)+2*(pop (r.z&&&s.x):Int)-(pop ((r.x^^^s.x)&&&(r.z^^^s.z)):Int)
def tm (r s:Row):Row:=⟨(((r.m:Int)+(s.m:Int)+tmq r s/2)%2).toNat,r.x^^^s.x,r.z^^^s.z⟩
theorem tm_m (r s:Row):(((r.m:Int)+(s.m:Int)+tmq r s/2)%2)=((tm r s).m:Int):=by
 show _=((((r.m:Int)+(s.m:Int)+tmq r s/2)%2).toNat:Int);omega
theorem tm_le (r s:Row):(tm r s).m<=1:=by
 have:=tm_m r s;omega
theorem d2w (r s:Row):Add3 r s (tm r s):=⟨rfl,rfl⟩
theorem a9m (r s:Row):a3d r s=false ↔ pop ((r.x&&&s.z)^^^(r.z&&&s.x))%2=0:=by
 unfold a3d;rw[<- b9k];unfold pb;rw[decide_eq_false_iff_not];omega
theorem symp_pop2 (r s:Row)(h:a3d r s=false):pop (r.x&&&s.z)%2=pop (r.z&&&s.x)%2:=by
 have h1:=(a9m r s).1 h;have h2:=a9f (r.x&&&s.z) (r.z&&&s.x);omega
theorem tm_prog (h:a3d r s=false):(2*((r.m:Int)+(s.m:Int)+(pop (r.x&&&s.z):Int))+(pop (r.x&&&r.z):Int)+(pop (s.x&&&s.z):Int)-(pop ((r.x^^^s.x)&&&(r.z^^^s.z)):Int))%4/2=((tm r s).m:Int):=by
 have h1:=symp_pop2 r s h;have h2:=pop_both r.x r.z s.x s.z;have h3:=(a9m r s).1 h;rw[<- tm_m];unfold tmq;omega
def pr (us:List Row):Row:=us.foldl tm ⟨0,0,0⟩
theorem c8q (us:List Row)(r:Row):pr (us++[r])=tm (pr us) r:=by unfold pr;rw[A4y];rfl
theorem pr_take (h:us[i]? = some r):pr (us.take (i+1))=tm (pr (us.take i)) r:=by
 rw[<- c8q,a1u h]
theorem pr_m:∀us:List Row,(pr us).m<=1:=fun us=>by
 rcases List.eq_nil_or_concat us with rfl|⟨i,x,rfl⟩
 ·exact A1v _
 ·rw[List.concat_eq_append,c8q];exact tm_le _ _
theorem symp_zero (s:Row):a3d ⟨0,0,0⟩ s=false:=by
 unfold a3d;show (pb (0&&&s.z) ^^ pb (0&&&s.x))=false;rw[A6r,A6r,c1r];rfl
theorem pr_com {rs:List Row}(h:∀r∈rs,∀s∈rs,a3d r s=false):∀{us:List Row},(∀u∈us,u∈rs)->∀s∈rs,a3d (pr us.reverse) s=false
 | [],_,s,_=>symp_zero s
 | u::us,hu,s,hs=>by
  rw[A5z,c8q,b9d (d2w _ _),pr_com h (fun v hv=>hu v (A0d _ hv)) s hs,h u (hu u A0k) s hs];rfl
theorem pr_com' (h:∀r∈rs,∀s∈rs,a3d r s=false)(hu:∀u∈us,u∈rs)(hs:s∈rs):a3d (pr us) s=false:=by
 have:=pr_com h (us:=us.reverse) (fun u hu'=>hu u (List.mem_reverse.1 hu')) s hs;rw[B2c] at this;exact this
def pk (rs:List Row)(ks:List Nat):List Row:=ks.map fun k=>rs.getD k ⟨0,0,0⟩
theorem pk_app (rs:List Row)(a b:List Nat):pk rs (a++b)=pk rs a++pk rs b:=A1b ..
theorem pk_mem {ks:List Nat}(h:∀k∈ks,k<rs.length):∀u∈pk rs ks,u∈rs:=fun u hu=>by
 obtain⟨k,hk,rfl⟩:=A1k.1 hu;have:=h k hk;rw[List.getD_eq_getElem?_getD,List.getElem?_eq_getElem this];exact A6m _
theorem mod_succ (m K:Nat):m%2^(K+1)=(m%2^K)^^^(if m.testBit K=true then 2^K else 0):=by
 apply A0p;intro i;rw[A5c,A0e,A5c]
 by_cases h:i<K
 ·have e:(if m.testBit K=true then 2^K else 0:Nat).testBit i=false:=by
   split
   ·rw[A2j];simp;omega
   ·exact A3z _
  rw[e];simp[h,A5x h]
 ·by_cases h2:i=K
  ·subst h2
   have e:(if m.testBit i=true then 2^i else 0:Nat).testBit i=m.testBit i:=by
    by_cases hb:m.testBit i=true
    ·rw[if_pos hb,hb,A3x]
    ·rw[if_neg hb,A3z,eq_false_of_ne_true hb]
   rw[e];simp
  ·have e:(if m.testBit K=true then 2^K else 0:Nat).testBit i=false:=by
    split
    ·rw[A2j];simp;omega
    ·exact A3z _
   rw[e];have h3:¬i<K+1:=by omega
   simp[h,h3]
theorem pr_sel {rs:List Row}(m:Nat):∀{K:Nat},K<=rs.length->(pr (pk rs (plc m K))).x=a4f (rs.map Row.x) (m%2^K)/\(pr (pk rs (plc m K))).z=a4f (rs.map Row.z) (m%2^K)
 | 0,_=>by
  rw[Nat.pow_zero,Nat.mod_one,a6r,a6r];exact⟨rfl,rfl⟩
 | K+1,h=>by
  obtain⟨i1,i2⟩:=pr_sel (rs:=rs) m (K:=K) (by omega);have hK:K<rs.length:=by omega
  rw[mod_succ,b1u,b1u,plc]
  by_cases hb:m.testBit K=true
  ·rw[if_pos hb,if_pos hb,pk_app,show pk rs [K]=[rs.getD K ⟨0,0,0⟩] from rfl,c8q];have e:rs.getD K ⟨0,0,0⟩=rs[K]:=by rw[List.getD_eq_getElem?_getD,List.getElem?_eq_getElem hK];rfl
   have ex:a4f (rs.map Row.x) (2^K)=rs[K].x:=c6t (by rw[List.getElem?_map,List.getElem?_eq_getElem hK];rfl);have ez:a4f (rs.map Row.z) (2^K)=rs[K].z:=c6t (by rw[List.getElem?_map,List.getElem?_eq_getElem hK];rfl);rw[ex,ez,<- i1,<- i2,e];exact⟨rfl,rfl⟩
  ·rw[if_neg hb,if_neg hb,a6r,a6r,A1c,A1c];exact⟨i1,i2⟩
theorem pr_lsel {m:Nat}(h:m<2^rs.length):Lsel rs m (pr (pk rs (plc m rs.length))):=by
 obtain⟨h1,h2⟩:=pr_sel m (A0f rs.length);rw[B1c h] at h1 h2;exact⟨h1.symm,h2.symm⟩
theorem plc_more {m a:Nat}(h:m<2^a):∀{b:Nat},a<=b->plc m b=plc m a
 | 0,hb=>by rw[show a=0 by omega]
 | b+1,hb=>by
  by_cases e:a=b+1
  ·rw[e]
  ·rw[plc,A2k (A0g h (A0w (by decide) (show a<=b by omega)))];exact plc_more h (by omega)
end Tw
namespace L2
open PySem PySem.Spec PyProof.Rows
section
variable {prog:Program}{w:World}{A:Around}{E:Value->Shared->Prop}{s:Shared}
theorem tw_setItem {l:Addr}{items:Array Value}{n j:Nat}{t:Tok}{v:Value}{Q:Unit->Shared->Prop}(e:s.heap.get? l=some { cls:=.type "list",data:=.seq items n })(hj:j<items.size)(hfit:(j:Int)<2^63)
  (h:Q () { s with heap:=s.heap.update l (A8f (·.setIfInBounds j v)) }):wpAny (model prog w) A (setItem (.ref l) (.int (j:Int) t) v) Q E s:=by
 have hl:s.heap.IsList l items:=B1b e;have hx:items[j]? = some items[j]:=Array.getElem?_eq_getElem hj;have hf:=fitsIndex_of (k:=(j:Int)) (by omega) hfit;clear hfit;obtain⟨k,hk⟩:∃k:Int,k=(j:Int):=⟨_,rfl⟩;rw[<- hk] at hf ⊢;unfold setItem
 try with_reducible refine A5b ?_
 first|refine A0b (A0h ?_)|skip
 refine A0b (A7j hl.typeIs (by decide) ?_);refine A0b (wpAny_callSpecial?_slot (name:=A9h "__setitem__") hl.typeIs A7m (A4g A7m hl.typeIs entry_list_setitem ?_ (args_list_setitem _ _ _)));show wpAny _ _ (Builtin.List.listSubscript? (.int k t) >>= _) _ _ s;refine A0b (wpAny_listSubscript_int hf ?_);clear hf;subst hk;show wpAny _ _ ((seqItemAt l j >>= fun r=>pure (r.map (j,·))) >>= _) _ _ s
 refine A0b (A0b (wpAny_seqItemAt e rfl (A0h ?_)));rw[hx];show wpAny _ _ (setSeqItemAt l j v >>= _) _ _ s;refine A0b (wpAny_setSeqItemAt e rfl ?_)
 first
  | exact A0b (A0h (A0h ⟨.none,rfl,A0h h⟩))
  | exact A0h ⟨.none,rfl,A0h h⟩
end
section
variable {X:Cx}{o i value:Expr}{td ty tv:TE}{pos pos':Pos}
def sLPut (td ty tv:TE):TS:=fun D σ H=>tv σ H fun v H1=>td σ H1 fun x H2=>ty σ H2 fun y H3=>∃a xs,∃k:Nat,x=.ref a/\y=.int (k:Int)/\H3 a=some (.lst xs)/\k<xs.length/\D.nx σ (upd H3 a (.lst (xs.set k v)))
theorem vals_set:∀{xs:List V} {its:List Value} {y:V} {u:Value},a5f xs its->a4s y u->∀k,a5f (xs.set k y) (its.set k u)
 | _,_,_,_,.nil,_,_=>.nil
 | _,_,_,_,.cons _ t,ry,0=>.cons ry t
 | _,_,_,_,.cons h t,ry,k+1=>.cons h (vals_set t ry k)
theorem ps_lput (ho:PE X o td)(hi:PE X i ty)(hv:PE X value tv)(hs:swapsWith value (some (.Subscript o i pos')) pos.line X.env=pure false):PS X (.Assign [.Subscript o i pos'] value pos) (sLPut td ty tv):=by
 intro pins s σ H D I h;refine wpAny_Assign_Subscript (thn (hv pins s σ H _ I h) fun r s1 ⟨v,H1,I1,rv,q1⟩=>thn (ho pins s1 σ H1 _ I1 q1) fun u s2 ⟨x,H2,I2,rx,q2⟩=>thn (hi pins s2 σ H2 _ I2 q2) fun iv s3 ⟨y,H3,I3,ry,a,xs,k,ex,ey,hH,hk,q3⟩=>?_) hs;subst ex ey;obtain rfl:u=A1w a:=rx;obtain⟨t,rfl⟩:=ry;obtain⟨z,its,n,rr,hl,e⟩:=I3.lstM hH;have hlen:=rr.length;have hz:sizeLine<2^60:=by rw[A8m];decide
 refine tw_setItem e (by rw[A1f];omega) (by omega) ?_;exact⟨σ,_,I3.lset (t':=s3.toks) (its':=its.set k r) hH e (by simp) (vals_set rr rv k) (by rw[List.length_set];omega),q3⟩
theorem pe_bm0K {K:A0a}{T:String}{id:String}{name:Str}{r:V->List V->Hp->VK->Prop}{o:Expr}{to:TE}{apos cpos:Pos}(hK:X.K=K)(pa:PlainAttrs T)(slot:Slot T name id)(hty:typeOf (.builtin id)=pure (.type "method_descriptor"))(hm:MtR X id r)(ho:PE X o to)
  (hbase:attributeBase o name X.env (eval o X.env)=eval o X.env:=by rfl) (hline:(apos.endLine==cpos.line)=true:=by rfl):PE X (.Call (.Attribute o name apos) [] [] cpos) (tBM0 K T r to):=hK▸pe_bm0 pa slot hty hm ho hbase hline
end
section
variable {X:Cx}{M:List Str}{pins:List (Addr×Obj)}{σ:St}{H:Hp}{s:Shared}{scope:Scope}{x x2:Str}
end
section
variable {X:Cx}{M:List Str}{scope:Scope}{x x2:Str}{px px2 ptg pos:Pos}{tk:Nat}{elt iter:Expr}{ifs:List Expr}{wi:TI}{tt:TT}{te:TE}
end
end L2
namespace Tw
open PySem L2
end Tw
namespace L2
open PySem PySem.Spec PyProof.Rows
section
variable {X:Cx}{scope:Scope}{x:Str}{px pos:Pos}{elt iter:Expr}{ifs:List Expr}{wi:TI}{tt:TT}{te:TE}
theorem ps_setCS {sc:Scope}{i:Nat}{y:Str}{py spos:Pos}(hi':X.N[i]? = some y)(hy:Loc X.env.scope y)(M N0:List Str)(hN0:X.N=N0)(hsc:X.env.scope=sc)(S:a6p sc x scope)(hx:x∉M)(h0:(".0":Str)∉M)(hNX:X.N.Nodup)(hN:M.Nodup)(hlen:M.length=N0.length)(hM:(M.zip N0).all (fun p=>p.1==p.2||(scope.names.lookup p.1).isNone)=true)(hc:X.calm=true)(hi:PI X (.Name x px) iter wi)
  (ht:∀C s H ex,PIfs (X.comp M scope x C s H ex) ifs tt) (he:∀C s H ex,PE (X.comp M scope x C s H ex) elt te) (hs:∀v,foldedSetIterable iter X.env v=pure v:=by intro _;rfl)
  (hsw:swapsWith (.ListComp elt [⟨.Name x px,iter,ifs,0⟩] scope pos) (some (.Name y py)) spos.line X.env=pure true:=by rfl)
  (hf:X.fn y=true\/X.env.scope.names.lookup y=some .local:=by first|exact .inl rfl|exact .inr rfl|assumption) :
  PS X (.Assign [.Name y py] (.ListComp elt [⟨.Name x px,iter,ifs,0⟩] scope pos) spos) (tAsg (c4q wi tt te) (gName i)):=by
 subst hN0;intro pins s σ H D I h;rw[exec_Assign_Name_used _ _ _ _ hsw];refine A0b (B0q (A0b ?_));show wpAny _ X.A (do let _ <- comprehension (.ListComp elt [⟨.Name x px,iter,ifs,0⟩] scope pos) scope X.env _ (newList []) false (eval iter X.env) (some (assign (.Name y py) X.env))) _ _ s;refine A0b (A2m (c8x (use:=some (assign (.Name y py) X.env)) (QQ:=fun _ s'=>SP X pins D .next s') (M:=M) hsc S hx h0 hN hlen (zip_or hM hlen) hc hi ht he I h (fun D' C s4 H4 c1 c2 c3 c4 c5 hn inv q=>?_) hs) (fun _ s' hq=>A0h (A0h hq)) fun _ _ e=>e);obtain⟨m,hn⟩:=hn;show wpAny _ X.A (assign (.Name y py) X.env (.ref D')) _ _ s4;refine B0b (c7g (v:=.ref D') (inv s4.heap (.refl ..)) hNX hi' hy rfl (fun s5 I5 ⟨a,sb,ha⟩=>?_) hf)
 have hCa:C≠a:=by
  rcases ha with r|r
  ·rw[r];exact c1
  ·exact fun z=>c2 _ _ r z.symm
 exact⟨m,hn.sameBut sb hCa,fun h' hs'=>⟨_,H4,I5.turned (t':=s5.toks) (fun b o hb e=>hs'.extBut b o hb e) c5 c1 (.inr c4) c2 c3,q⟩⟩
end
end L2
namespace Tw
open PySem L2
def bn (b:Bool):Int:=if b=true then 1 else 0
theorem pigeon:∀(N M:Nat) (f:Nat->Nat),(∀i,i<N->f i<M)->(∀i j,i<N->j<N->f i=f j->i=j)->N<=M
 | 0,_,_,_,_=>A1v _
 | N+1,M,f,h1,h2=>by
  have hy:=h1 N (A3t N);have ih:=pigeon N (M-1) (fun i=>if f i=M-1 then f N else f i) (fun i hi=>?_) (fun i j hi hj e=>?_)
  ·omega
  ·have a1:=h1 i (by omega)
   by_cases c:f i=M-1
   ·have:f N≠f i:=fun z=>by have:=h2 N i (by omega) (by omega) z;omega
    simp only[if_pos c];omega
   ·simp only[if_neg c];omega
  ·by_cases c:f i=M-1<;>by_cases d:f j=M-1<;>simp only[if_pos,if_neg,c,d,if_true,if_false] at e
   ·exact h2 i j (by omega) (by omega) (c.trans d.symm)
   ·have:=h2 N j (by omega) (by omega) e;omega
   ·have:=h2 i N (by omega) (by omega) e;omega
   ·exact h2 i j (by omega) (by omega) e
def sn (n:Nat)(r:Row):Nat:=r.x^^^r.z*2^n
theorem sn_lt {n:Nat}{r:Row}(ok:r.Ok n):sn n r<2^(2*n):=by
 refine A0z (A0g ok.x (A0w (by decide) (by omega))) ?_;rw[show 2*n=n+n by omega,A7q];exact A8v ok.z (A1m n)
def stp (n s:Nat)(g r:Row):Row:=if (sn n r).testBit s=true then tm r g else r
end Tw
namespace L2
open PySem PySem.Spec PyProof.Rows
variable {K:A0a}{T a b c f:Addr}{osl:Array (Option Value)}{X:Cx}{e:Expr}{fd:FuncData}{G G2 H H':Hp}{tabs:List (Addr×Addr)}{cl:List (Str×Addr)}{N ps:List Str}{j k:Nat}{o:Obj}{an od:Option Addr}{p:Pos}{P:Program}{s:Shared}{sp:Sp}{σ:St}{st:Stmt}{x:Str}{te:TE}{Q:VK}{ct d doc oc pm:Value}
def exO (a:Addr)(o:Obj):HO:=.ext fun h=>h.get? a=some o
section
variable {P:Program}{w:World}{H:Hp}{h:Heap}{a:Addr}{o:Obj}
theorem d3f (e:h.get? a=some o):a5g P w H h a (exO a o):=⟨e,⟨o,e⟩,fun _ _ p k=>k o p⟩
theorem c1t (x:a5g P w H h a (exO a o)):h.get? a=some o:=x.1
end
def CodeO (o:Obj)(q:Str):Prop:=∃vs t,o.data=.fields vs/\vs[1]? = some (.str q t)
structure Lam where
 qual:Str
 params:Arguments
 body:Expr
 scope:Scope
 pos:Pos
def a4j (H:Hp)(T:Addr)(l:Lam):Prop:=∃ps:Array Value,H T=some (.tbl ps)/\TriplesOk ps.toList/\(codeAmong l.pos ps.toList=none\/∃c' oc,codeAmong l.pos ps.toList=some (.ref c')/\H c'=some (exO c' oc)/\CodeO oc l.qual)
def b6z (H:Hp)(f:Addr)(l:Lam)(cl:List (Str×Addr)):Prop:=∃c' oc pm ctv,H f=some (exO f (A3s "<lambda>" l.qual l.params l.body l.scope cl pm c' ctv))/\H c'=some (exO c' oc)/\CodeO oc l.qual
def a4t (H H':Hp):Prop:=∀a o,H a=some o->(∀ps,o≠.tbl ps)->H' a=some o
theorem a4t.trans {H'':Hp}(a:a4t H H')(b:a4t H' H''):a4t H H'':=fun c o e n=>b c o (a c o e n) n
def SameX (T:Addr)(H H':Hp):Prop:=∀a o,a≠T->H a=some o->H' a=some o
theorem SameX.t {ps:Array Value}(h:SameX T H H')(e:H T=some (.tbl ps)):a4t H H':=fun a o q n=>h a o (fun z=>by rw[z,e] at q;cases q;exact n _ rfl) q
def BltM (mg:Str->Option Value)(base:Heap):Prop:=∃bm o,mg "__builtins__" = some (.ref bm)/\bm≠builtinsNs/\base.get? bm=some o/\o.cls=.type "module"/\o.dict=some builtinsNs/\o.data=.plain
section
variable {X:Cx}{pins:List (Addr×Obj)}{σ:St}{H:Hp}{s:Shared}{T c:Addr}{l:Lam}{cl:List (Str×Addr)}
theorem make_lam {Q:Value->Shared->Prop}(I:Inv X pins σ H s)(hcode:X.env.code=.ref c)(C:A4r X.base c T)(B:BltM X.mg X.base)(hq:X.env.qual ++ "<lambda>" = l.qual)(hdef:defaultsOf l.params X.env=([],[]))
  (hcl:closureFor l.scope X.env=pure cl) (t:a4j H T l)
  (h:∀f H' s',Inv X pins σ H' s'->SameX T H H'->a4j H' T l->H f=none->b6z H' f l cl->Q (.ref f) s') :
  wpAny (model X.prog X.w) X.A (eval (.Lambda l.params l.body l.scope l.pos) X.env) Q X.xe s:=by
 refine PySem.W.kla_eval hdef ?_;rw[hq];obtain⟨ps,hT,tr,hc⟩:=t;have hP:s.heap.get? T=some (A9w ps):=I.hok T _ hT;have hns:=I.mod.glob;have hgs:s.heap.Ns mainGlobals X.mg:=hns.keeps I.bk
 have hgT:mainGlobals≠T:=fun z=>by
  obtain⟨o,es,ep,e,_⟩:=hns;have:=(I.bs _ _ e).2;rw[z,hT] at this;cases this
 obtain⟨bm,ob,b1,b2,b3,b4,b5,b6⟩:=B
 have hbT:bm≠T:=fun z=>by
  have:=(I.bs _ _ b3).2;rw[z,hT] at this;cases this
 have hbG:bm≠mainGlobals:=fun z=>by
  obtain⟨o,es,ep,e,hd,_⟩:=hns;rw[z,e] at b3;cases b3;rw[hd] at b6;cases b6
 have hb:s.heap.BuiltinsAt X.mg T:=⟨bm,ob,b1,b2,hbG,hbT,I.bk _ _ b3,b4,b5,b6⟩
 rcases hc with hnf|⟨c',oc,hf,hc',hoc⟩
 ·refine PySem.W.kla_makeFunction hcl I.ok.glob hgs hcode (C.keeps I.bk) hP tr hnf hgT hb fun c' ctv h' tk hx hge hlt hrec htb=>?_;obtain⟨c2,oc,vs,tt,e2,hoc,hd,hv⟩:=hrec;cases e2
  have nT:∀b u,H b=some u->(∀q,u≠.tbl q)->b≠T:=fun b u e n z=>by
   rw[z,hT] at e;cases e;exact n _ rfl
  have fc:H c'=none:=I.hok.fresh hge;have hszle:s.heap.objs.size<=h'.objs.size:=A0y hge (A4h hlt);have ff:H h'.objs.size=none:=I.hok.fresh hszle;have fT:T≠c':=a0p hT fc;have fTf:T≠h'.objs.size:=a0p hT ff;have cf:c'≠h'.objs.size:=A1j hlt
  have at_:∀b u,H b=some u->(∀q,u≠.tbl q)->upd (upd (upd H T (.tbl (ps ++ #[rawInt l.pos.line,rawInt l.pos.col,.ref c']))) c' (exO c' oc)) h'.objs.size (exO h'.objs.size (A3s "<lambda>" l.qual l.params l.body l.scope cl ((X.mg "__name__").getD .none) c' ctv)) b=some u:=fun b u e n=>by
   rw[a0q (a0p e ff),a0q (a0p e fc),a0q (nT b u e n)];exact e
  have tb_:upd (upd (upd H T (.tbl (ps ++ #[rawInt l.pos.line,rawInt l.pos.col,.ref c']))) c' (exO c' oc)) h'.objs.size (exO h'.objs.size (A3s "<lambda>" l.qual l.params l.body l.scope cl ((X.mg "__name__").getD .none) c' ctv)) T=some (.tbl (ps ++ #[rawInt l.pos.line,rawInt l.pos.col,.ref c'])):=by
   rw[a0q fTf,a0q fT,a0b]
  have c_:upd (upd (upd H T (.tbl (ps ++ #[rawInt l.pos.line,rawInt l.pos.col,.ref c']))) c' (exO c' oc)) h'.objs.size (exO h'.objs.size (A3s "<lambda>" l.qual l.params l.body l.scope cl ((X.mg "__name__").getD .none) c' ctv)) c'=some (exO c' oc):=by
   rw[a0q cf,a0b]
  have f_:upd (upd (upd H T (.tbl (ps ++ #[rawInt l.pos.line,rawInt l.pos.col,.ref c']))) c' (exO c' oc)) h'.objs.size (exO h'.objs.size (A3s "<lambda>" l.qual l.params l.body l.scope cl ((X.mg "__name__").getD .none) c' ctv)) h'.objs.size=some (exO h'.objs.size (A3s "<lambda>" l.qual l.params l.body l.scope cl ((X.mg "__name__").getD .none) c' ctv)):=a0b
  have off:∀b,b≠T->b≠c'->b≠h'.objs.size->upd (upd (upd H T (.tbl (ps ++ #[rawInt l.pos.line,rawInt l.pos.col,.ref c']))) c' (exO c' oc)) h'.objs.size (exO h'.objs.size (A3s "<lambda>" l.qual l.params l.body l.scope cl ((X.mg "__name__").getD .none) c' ctv)) b=H b:=fun b h1 h2 h3=>by
   rw[a0q h3,a0q h2,a0q h1]
  have old:∀b o,s.heap.get? b=some o->b≠c'/\b≠h'.objs.size:=fun b o e=>⟨A1j (A0g (A0n e) hge),A1j (A0g (A0n e) hszle)⟩
  refine h h'.objs.size _ _ (I.un (h':=h'.push (A3s "<lambda>" l.qual l.params l.body l.scope cl ((X.mg "__name__").getD .none) c' ctv)) (t':=tk)
   ⟨fun b o e n _ _=>Heap.get?_push_of_some _ (hx b o (fun z=>by rw[z,hT] at n;cases n) e),fun b o e n _ _=>⟨o.slots,Heap.get?_push_of_some _ (hx b o (fun z=>by rw[z,hT] at n;cases n) e)⟩,
    fun b o e n _=>by rw[off b (fun z=>by rw[z,hT] at n;cases n) (old b o e).1 (old b o e).2];exact n,
    fun b o e _=>?_,fun b xs e=>at_ b _ e (by intro q z;cases z),fun b o u e=>at_ b _ e (by intro q z;cases z),fun b q e=>?_⟩ fun b u e=>?_) (fun b u n e=>by rw[off b n (a0p e fc) (a0p e ff)];exact e) ⟨_,tb_,?_,.inr ⟨c',oc,?_,c_,vs,tt,hd,hv⟩⟩ ff ⟨c',oc,_,ctv,f_,c_,vs,tt,hd,hv⟩
  ·by_cases z:b=T
   ·exact⟨_,by rw[z];exact Heap.get?_push_of_some _ htb⟩
   ·exact⟨o,Heap.get?_push_of_some _ (hx b o z e)⟩
  ·by_cases z:b=T
   ·subst z;rw[hT] at e;cases e;exact⟨_,tb_⟩
   ·exact⟨#[],by rw[off b z (a0p e fc) (a0p e ff),e,Array.append_empty]⟩
  ·by_cases z1:b=h'.objs.size
   ·subst z1;rw[f_] at e;cases e;exact d3f (Heap.get?_push_size _ rfl)
   ·by_cases z2:b=c'
    ·subst z2;rw[c_] at e;cases e;exact d3f (Heap.get?_push_of_some _ hoc)
    ·by_cases z3:b=T
     ·subst z3;rw[tb_] at e;cases e;exact Heap.get?_push_of_some _ htb
     ·rw[off b z3 z2 z1] at e;refine(I.hok b u e).stay (fun d v hd q=>Heap.get?_push_of_some _ (hx d v ?_ q)) (fun d q=>at_ d _ q (by intro q z;cases z)) fun d xs q=>at_ d _ q (by intro q z;cases z)
      rcases hd with z|z
      ·rw[z];exact z3
      ·exact nT d _ z (by intro q z;cases z)
  ·rw[B2n];exact TriplesOk_snoc _ _ _ _ tr
  ·rw[B2n];exact codeAmong_snoc _ tr hnf
 ·refine PySem.W.kla_makeFunctionHit hcl I.ok.glob hgs hcode (C.keeps I.bk) hP tr hf hb fun ctv h' tk hk hsz=>?_;have ff:H h'.objs.size=none:=I.hok.fresh hsz
  have at_:∀b u,H b=some u->upd H h'.objs.size (exO h'.objs.size (A3s "<lambda>" l.qual l.params l.body l.scope cl ((X.mg "__name__").getD .none) c' ctv)) b=some u:=fun b u e=>by
   rw[a0q (a0p e ff)];exact e
  exact h h'.objs.size _ _ (I.laid (h':=h'.push (A3s "<lambda>" l.qual l.params l.body l.scope cl ((X.mg "__name__").getD .none) c' ctv)) (t':=tk) (fun b u e=>Heap.get?_push_of_some _ (hk b u e)) hsz (d3f (Heap.get?_push_size _ rfl))) (fun b u _ e=>at_ b u e)
   ⟨ps,at_ _ _ hT,tr,.inr ⟨c',oc,hf,at_ _ _ hc',hoc⟩⟩ ff ⟨c',oc,_,ctv,a0b,at_ _ _ hc',hoc⟩
def tLam (T:Addr)(l:Lam)(cl:List (Str×Addr)):TE:=fun _ H Q=>a4j H T l/\∀f H',SameX T H H'->a4j H' T l->H f=none->b6z H' f l cl->Q (.ref f) H'
theorem pe_lam {qual:Str}{params:Arguments}{body:Expr}{scope:Scope}{pos:Pos}(C:A4r X.base c T)(B:BltM X.mg X.base)(hcode:X.env.code=.ref c:=by rfl)(hq:X.env.qual ++ "<lambda>" = qual:=by rfl)(hdef:defaultsOf params X.env=([],[]):=by rfl)
  (hcl:closureFor scope X.env=pure cl:=by rfl):PE X (.Lambda params body scope pos) (tLam T ⟨qual,params,body,scope,pos⟩ cl):=fun pins s σ H Q I h=>
 make_lam (l:=⟨qual,params,body,scope,pos⟩) I hcode C B hq hdef hcl h.1 fun f H' s' I' a b e d=>⟨.ref f,H',I',rfl,h.2 f H' a b e d⟩
end
structure Cov (N:List Str)(σ:St)(cl:List (Str×Addr))(H G:Hp):Prop where
 off:∀b,b∉cl.map (·.2)->G b=H b
 at_:∀x c,(x,c)∈cl->H c=none/\∃o,G c=some (exO c o)/\∀(i:Nat) (v:V),N[i]? = some x->σ[i]? = some (some v)->∃u,o.data=.cell (some u)/\a4s v u
def unc (cl:List (Str×Addr))(G:Hp):Hp:=fun b=>if b∈cl.map (·.2) then none else G b
theorem d0a (h:b∈cl.map (·.2)):unc cl G b=none:=if_pos h
theorem a4k (h:b∉cl.map (·.2)):unc cl G b=G b:=if_neg h
def tCallC (N:List Str)(sp:Sp)(cl:List (Str×Addr))(t:TA):TE:=fun σ H Q=>t σ H fun vs H1=>∀G,Cov N σ cl H1 G->sp vs G (fun v G2=>(∀p∈cl,G2 p.2=G p.2)/\Q v (unc cl G2)) E0
section
variable {X:Cx}{j k:Nat}{ps:List Str}{sp:Sp}{x:Str}{p pos:Pos}{e:Expr}{es:List Expr}{t:TA}{cl:List (Str×Addr)}
theorem pe_fnC (c:Cal X.prog X.w X.K X.mg X.base CX0 k x ps sp)(hr:b4h j X.A)(hcl:∀y a,(y,a)∈cl->X.env.cells.lookup y=some a/\X.env.kindOf y=some .cell/\X.fn y=true)(ha:PA X (e::es) t)(hk:k<=j:=by decide)(hg:Gl X x:=by rfl)(hdb:(x==("__debug__":Str))=false:=by decide)
  (he:starEach (e::es) X.env=(false,eval e X.env)::starEach es X.env:=by rfl) (hpl:(backTo pos (starEach es X.env)).any (·.1)=false:=by rfl) :
  PE X (.Call (.Name x p) (e::es) [] pos) (tCallC X.N sp cl t):=by
 obtain⟨f,fd,F,b,kp,m⟩:=c.ex;intro pins s0 σ H0 Q I0 h;refine A4j (c7q I0 hg m ?_ hdb);refine A5k (h₀:=X.base) I0.ok.mod.kin kp (thn (ha pos pins s0 σ H0 _ I0 h) fun us s ⟨vs,H,I,r,q⟩=>⟨I.kIn,?_⟩) he hpl
 have cin:∀a,a∈cl.map (·.2)->∃y,(y,a)∈cl:=fun a ha=>by
  obtain⟨q,hq,rfl⟩:=List.mem_map.mp ha;exact⟨q.1,hq⟩
 have cob:∀y a,(y,a)∈cl->∃o v,s.heap.get? a=some o/\o.data=.cell v:=fun y a hm=>by
  obtain⟨v,o,ho,hd⟩:=I.cell y a (hcl y a hm).1;exact⟨o,v,ho,hd⟩
 have cno:∀a,a∈cl.map (·.2)->H a=none:=fun a ha=>by
  obtain⟨y,hm⟩:=cin a ha;exact I.freeC y a (hcl y a hm).1
 have cge:∀a,a∈cl.map (·.2)->X.s₀.heap.objs.size<=a:=fun a ha=>by
  obtain⟨y,hm⟩:=cin a ha;exact I.ok.cab y a (hcl y a hm).2.2 (hcl y a hm).1
 have G_:∃G:Hp,(∀b,b∉cl.map (·.2)->G b=H b)/\∀a o,a∈cl.map (·.2)->s.heap.get? a=some o->G a=some (exO a o):=
  ⟨fun b=>if b∈cl.map (·.2) then (s.heap.get? b).map (exO b) else H b,fun b hb=>if_neg hb,fun a o ha e=>(if_pos ha).trans (by rw[e];rfl)⟩
 obtain⟨G,Goff,Gat⟩:=G_;have trk:∀b u,H b=some u->b∉cl.map (·.2):=fun b u e z=>by rw[cno b z] at e;cases e
 have cov:Cov X.N σ cl H G:=⟨Goff,fun y a hm=>by
  have ha:a∈cl.map (·.2):=List.mem_map.mpr ⟨(y,a),hm,rfl⟩
  obtain⟨o,v,ho,hd⟩:=cob y a hm;refine⟨cno a ha,o,Gat a o ha ho,fun i w e1 e2=>?_⟩;obtain⟨mm,hn,hl⟩:=I.loc;have hkk:X.env.scope.names.lookup y=some .cell:=(hcl y a hm).2.1;obtain⟨u,ru,lk⟩:=hl i y w e1 e2 (.inr (.inl hkk))
  rcases lk with ⟨k1,_⟩|⟨_,a2,l2,o2,ho2,hd2⟩
  ·rw[(hcl y a hm).2.1] at k1;cases k1
  ·rw[(hcl y a hm).1] at l2;cases l2;rw[ho] at ho2;cases ho2
   exact⟨u,hd2,ru⟩⟩
 have hokG:HOk X.prog X.w G s.heap:=fun b u e2=>by
  by_cases hb:b∈cl.map (·.2)
  ·obtain⟨y,hm⟩:=cin b hb;obtain⟨o,v,ho,_⟩:=cob y b hm;rw[Gat b o hb ho] at e2;cases e2;exact d3f ho
  ·rw[Goff b hb] at e2;exact(I.hok b u e2).stay (fun d v _ q=>q) (fun d q=>by rw[Goff d (trk d _ q)];exact q) fun d xs q=>by rw[Goff d (trk d _ q)];exact q
 have inb:∀b o,X.base.get? b=some o->b∉cl.map (·.2):=fun b o e2 z=>by
  have h1:=A0g (A0n e2) I.ok.bsz;exact absurd (A0g h1 (cge b z)) (A2v _)
 have nstk:∀b∈frs X.stack,b∉cl.map (·.2):=fun b hb z=>by
  obtain⟨y,hm⟩:=cin b z
  rcases List.mem_cons.mp (I.stkSub b hb) with z2|z2
  ·exact I.cne y b (hcl y b hm).1 z2
  ·obtain⟨_,o,ho,_⟩:=I.ok.funs.mem z2;exact absurd (A0g (A0n ho) (cge b z)) (A2v _)
 have e0:=I.env0;have e0G:Env0 X.prog X.w X.K X.mg X.base X.A X.stack s G:=⟨e0.frames,e0.mod,fun b o e2=>⟨(e0.bs b o e2).1,by rw[Goff b (inb b o e2)];exact(e0.bs b o e2).2⟩,e0.bsz,e0.funs,fun b hb=>by rw[Goff b (nstk b hb)];exact e0.frf b hb,hokG,e0.bare⟩;have hl:us.length=ps.length:=by rw[<- r.length];exact F.len _ _ _ _ (q G cov)
 have hbd:=b s us I.kIn (by rw[A3v];exact hl);rw[A3v] at hbd;refine B1w (A6q (F.run X.A X.stack s G ⟨us,[]⟩ us vs _ E0 (hr.mono hk) e0G hbd r (q G cov)) fun rr s' hq=>?_)
 cases rr with
 | error e=>exact A1u hq
 | ok fl=>
  cases fl with
  | next=>exact A1u hq
  | brk=>exact A1u hq
  | cont=>exact A1u hq
  | ret u=>
   obtain⟨v,G2,os,bare,un,hok2,rv,hcells,hQ⟩:=hq
   have c2:∀a o,a∈cl.map (·.2)->s.heap.get? a=some o->s'.heap.get? a=some o:=fun a o ha e2=>by
    obtain⟨q2,hq2,rfl⟩:=List.mem_map.mp ha;have:=hcells q2 hq2;rw[Gat q2.2 o ha e2] at this;exact c1t (hok2 _ _ this)
   have c3:∀a u,a∈cl.map (·.2)->G2 a=some u->∃o,u=exO a o:=fun a u ha e2=>by
    obtain⟨y,hm⟩:=cin a ha;obtain⟨o,_,ho,_⟩:=cob y a hm;have:=hcells (y,a) hm;rw[Gat a o ha ho] at this;rw[this] at e2;exact⟨o,(A0j e2).symm⟩
   have un2:Un (frs X.stack) [] H (unc cl G2) s.heap s'.heap:=by
    refine⟨fun b o e2 n hb hx=>?_,fun b o e2 n hb hx=>?_,fun b o e2 n hx=>?_,fun b o e2 hx=>?_,fun b xs e2=>?_,fun b o u e2=>?_,fun b q e2=>?_⟩
    ·by_cases z:b∈cl.map (·.2)
     ·exact c2 b o z e2
     ·exact un.keep b o e2 (by rw[Goff b z];exact n) hb hx
    ·have z:=nstk b hb;exact un.slot b o e2 (by rw[Goff b z];exact n) hb hx
    ·by_cases z:b∈cl.map (·.2)
     ·exact d0a z
     ·rw[a4k z];exact un.free b o e2 (by rw[Goff b z];exact n) hx
    ·exact un.there b o e2 hx
    ·have z:=trk b _ e2;rw[a4k z];exact un.tups b xs (by rw[Goff b z];exact e2)
    ·have z:=trk b _ e2;rw[a4k z];exact un.frzs b o u (by rw[Goff b z];exact e2)
    ·have z:=trk b _ e2;obtain⟨m1,e3⟩:=un.tbls b q (by rw[Goff b z];exact e2);exact⟨m1,by rw[a4k z];exact e3⟩
   have hokU:HOk X.prog X.w (unc cl G2) s'.heap:=fun b u e2=>by
    by_cases z:b∈cl.map (·.2)
    ·rw[d0a z] at e2;cases e2
    ·rw[a4k z] at e2
     have outs:∀d u2,G2 d=some u2->(∀o,u2≠exO d o)->d∉cl.map (·.2):=fun d u2 e3 n z2=>by
      obtain⟨o,z3⟩:=c3 d u2 z2 e3;exact n o z3
     exact(hok2 b u e2).stay (fun d v _ q=>q) (fun d q=>by rw[a4k (outs d _ q (by intro o z3;cases z3))];exact q) fun d xs q=>by rw[a4k (outs d _ q (by intro o z3;cases z3))];exact q
   obtain⟨hh,g,d,tk,os'⟩:=s';obtain rfl:os'=s.os:=os;exact⟨v,unc cl G2,I.call (h':=hh) (g':=g) (d':=d) (t':=tk) (ch:=[]) un2 hokU bare (fun b z=>absurd z (by simp)),rv,hQ⟩
end
structure c5u (N ps:List Str)(l:Lam)(cl:List (Str×Addr)):Prop where
 kind:l.scope.kind=.function
 co:l.scope.isCoroutine=false
 gen:l.scope.isGenerator=false
 nd:N.Nodup
 pre:N.take ps.length=ps
 par:∀x∈ps,l.scope.names.lookup x=some .local
 post:∀(i:Nat) (x:Str),ps.length<=i->N[i]? = some x->l.scope.names.lookup x=some .free
 nocell:∀x∈l.scope.names,x.2≠.cell
 fr:∀x,l.scope.names.lookup x=some .free->∃c,cl.lookup x=some c
 inj:∀x y c,cl.lookup x=some c->cl.lookup y=some c->x=y
 binds:∀(pm ctv:Value) (c':Addr) (us:List Value),us.length=ps.length->bindArgs (PySem.W.kla_fn "<lambda>" l.qual l.params l.body l.scope cl pm (.ref c') ctv) ⟨us,[]⟩=pure (ps.zip us)
theorem lookup_nd {l:List (Str×Value)}:∀{x:Str} {v:Value},(l.map (·.1)).Nodup->(x,v)∈l->l.lookup x=some v:=by
 induction l with
 | nil=>intro x v _ h;cases h
 | cons p l ih=>
  intro x v nd h;obtain⟨y,u⟩:=p;rw[A0m,A3e] at nd
  rcases List.mem_cons.mp h with h|h
  ·cases h;rw[A1n];simp
  ·have ne:x≠y:=fun z=>nd.1 (z▸List.mem_map.mpr ⟨(x,v),h,rfl⟩);rw[A1n,show (x==y)=false from beq_eq_false_iff_ne.mpr ne];exact ih nd.2 h
def lamCx (P:Program)(w:World)(K:A0a)(mg:Str->Option Value)(base:Heap)(N:List Str)(qual:Str)(scope:Scope)(f:Addr)(cd:Value)(cl:List (Str×Addr))(A:Around)(outer:List Env)(s:Shared)(H:Hp):Cx where
 prog:=P
 w:=w
 K:=K
 mg:=mg
 base:=base
 A:=A.deeper (A5r qual scope s.heap.objs.size f cd cl)
 N:=N
 s₀:=s
 H₀:=H
 env:=A5r qual scope s.heap.objs.size f cd cl
 outer:=outer
 stack:=A5r qual scope s.heap.objs.size f cd cl::outer
 ex:=[]
 calm:=true
 fn:=fun _=>false
 pn:=[]
 xe:=fun _ _=>False
def rec_ (cl:List (Str×Addr))(G H:Hp):Hp:=fun b=>if b∈cl.map (·.2) then G b else H b
def d5q (G:Hp)(N:List Str)(cl:List (Str×Addr))(σ:St):Prop:=∀x c,cl.lookup x=some c->∃o u,G c=some (exO c o)/\o.data=.cell (some u)/\∀(i:Nat) (v:V),N[i]? = some x->σ[i]? = some (some v)->a4s v u
theorem d3u {w:World}{mg:Str->Option Value}{base:Heap}{l:Lam}(S:c5u N ps l cl){A:Around}{outer:List Env}{us:List Value}{vs ws:List V}{E:XK}
  (hr:b4h (k+1) A) (e0:Env0 P w K mg base A outer s G) (r:a5f vs us) (hl:vs.length=ps.length) (hN:N.length=vs.length+ws.length) (L:b6z G f l cl) (hc:d5q G N cl ((vs++ws).map some)) (hcm:∀p∈cl,∃x,cl.lookup x=some p.2)
  (hbody:∀c':Addr,∃t,PE (lamCx P w K mg base N l.qual l.scope f (.ref c') cl A outer s (unc cl G)) l.body t/\t ((vs++ws).map some) (unc cl G) fun v H'=>Q v (rec_ cl G H')) :
  codeAny (model P w) A (.call (.ref f) ⟨us,[]⟩) (CR CX0 outer P w G s Q E) s:=by
 obtain⟨c',oc,pm,ctv,hf,hc',vs',tt,hd,hv⟩:=L;have ho:=c1t (e0.hok _ _ hf);have hoc:=c1t (e0.hok _ _ hc');have lim:s.heap.NoLimit:=e0.mod.nolimit.keeps fun b o e=>(e0.bs b o e).1;have lu:us.length=ps.length:=by rw[<- r.length];exact hl
 have hloc:∀y∈ps.zip us,l.scope.names.lookup y.1=some .local:=fun⟨n,v⟩ hy=>S.par n (A6w hy).1;obtain⟨t,ht,hq⟩:=hbody c';refine PySem.W.kla_callFunE hr.depth ho rfl S.co S.gen rfl ⟨c',oc,vs',tt,rfl,hoc,hd,hv⟩ ?_;rw[S.binds pm ctv c' us lu];refine A0h (wpAny_newFunctionEnv S.nocell hloc (fun h₁ hns hsb=>⟨lim.fresh _ hsb,?_⟩) S.kind);show codeAny _ _ (.expr l.body (A5r l.qual l.scope s.heap.objs.size f (.ref c') cl)) _ _;have hk₁:∀b o,s.heap.get? b=some o->h₁.get? b=some o:=fun b o e=>hsb.extBut b o (A1j (A0n e)) (Heap.get?_push_of_some _ e)
 have cin:∀a,a∈cl.map (·.2)->∃x,cl.lookup x=some a:=fun a ha=>by
  obtain⟨q,hq,rfl⟩:=List.mem_map.mp ha;exact hcm q hq
 have cat:∀x a,cl.lookup x=some a->a∈cl.map (·.2):=fun x a h=>List.mem_map.mpr ⟨(x,a),A0x h,rfl⟩
 have cob:∀a,a∈cl.map (·.2)->∃o u,G a=some (exO a o)/\o.data=.cell (some u)/\s.heap.get? a=some o:=fun a ha=>by
  obtain⟨x,hx⟩:=cin a ha;obtain⟨o,u,h1,h2,_⟩:=hc x a hx;exact⟨o,u,h1,h2,c1t (e0.hok _ _ h1)⟩
 have hokU:HOk P w (unc cl G) h₁:=fun b u e=>by
  by_cases z:b∈cl.map (·.2)
  ·rw[d0a z] at e;cases e
  ·rw[a4k z] at e
   have outs:∀d u2,G d=some u2->(∀o,u2≠exO d o)->d∉cl.map (·.2):=fun d u2 e3 n z2=>by
    obtain⟨o,_,h1,_⟩:=cob d z2;rw[h1] at e3;exact n o (A0j e3).symm
   exact(e0.hok b u e).stay (fun d v _ q=>hk₁ _ _ q) (fun d q=>by rw[a4k (outs d _ q (by intro o z3;cases z3))];exact q) fun d xs q=>by rw[a4k (outs d _ q (by intro o z3;cases z3))];exact q
 have nofr:∀b,G b=none->unc cl G b=none:=fun b n=>by
  by_cases z:b∈cl.map (·.2)
  ·exact d0a z
  ·rw[a4k z];exact n
 have noA:∀b:Addr,b∉([]:List Addr):=fun b z=>nomatch z
 have I:Inv (lamCx P w K mg base N l.qual l.scope f (.ref c') cl A outer s (unc cl G)) [] ((vs++ws).map some) (unc cl G) { s with heap:=h₁,toks:=s.toks+(ps.zip us).length }:=by
  refine⟨⟨e0.mod,S.kind,rfl,rfl,A0f _,fun x y c h1 h2=>S.inj x y c h1 h2,fun y hy=>?_,fun y c z=>(by cases z),fun _=>hr.hd,B1y e0.frames,.inr ⟨rfl,rfl⟩,fun b z=>(nomatch z),fun b o e=>⟨(e0.bs b o e).1,nofr b (e0.bs b o e).2⟩,e0.bsz,fun b _ _ z=>(nomatch z),fun b z=>(nomatch z),e0.funs,fun b hb=>nofr b (e0.frf b hb)⟩,
   rfl,e0.bare,Un.kept hk₁,⟨_,hns,fun i x v e1 e2 e3=>?_⟩,fun x c h=>?_,?_,fun x c h=>d0a (cat x c h),fun p hp=>(nomatch hp),hokU,?_⟩
  ·have hy':l.scope.names.lookup y=some .cell\/l.scope.names.lookup y=some .free:=hy
   rcases hy' with hy'|hy'
   ·exact absurd rfl (S.nocell _ (A0x hy'))
   ·exact S.fr y hy'
  ·have e1':N[i]? = some x:=e1;have e3':Vis l.scope x:=e3
   rcases e3' with k1|k1|k1
   ·have hi:i<ps.length:=by
     rcases A4d i ps.length with z|z
     ·exact z
     ·rw[S.post i x z e1'] at k1;cases k1
    have hvi:vs[i]? = some v:=by
     rw[List.getElem?_map,List.getElem?_append_left (by omega)] at e2
     cases e4:vs[i]? with
     | none=>rw[e4] at e2;cases e2
     | some a=>rw[e4] at e2;cases e2;rfl
    obtain⟨u,hu,rv⟩:=r.get hvi;have hp:ps[i]? = some x:=by rw[<- S.pre,List.getElem?_take_of_lt hi];exact e1'
    have ndP:ps.Nodup:=by rw[<- S.pre];exact S.nd.sublist (B0e _ _)
    refine⟨u,rv,.inl ⟨k1,?_⟩⟩;have hm:(x,u)∈ps.zip us:=List.mem_of_getElem? (i:=i) (by rw[List.getElem?_zip_eq_some];exact⟨hp,hu⟩);refine lookup_nd ?_ (List.mem_reverse.mpr hm);rw[List.map_reverse];have e5:(ps.zip us).map (·.1)=ps:=List.map_fst_zip (by omega)
    rw[e5];exact(List.reverse_perm ps).symm.nodup ndP
   ·exact absurd rfl (S.nocell _ (A0x k1))
   ·obtain⟨c,hcx⟩:=S.fr x k1;obtain⟨o,u,h1,h2,h3⟩:=hc x c hcx;exact⟨u,h3 i v e1' e2,.inr ⟨.inr k1,c,hcx,o,hk₁ _ _ (c1t (e0.hok _ _ h1)),h2⟩⟩
  ·obtain⟨o,u,h1,h2,h3⟩:=cob c (cat x c h);exact⟨some u,o,hk₁ _ _ h3,h2⟩
  ·exact nofr _ (e0.hok.fresh (A0f _))
  ·rw[A0c,A0s];exact hN.symm
 refine PySem.W.kla_codeExpr (A2m (ht [] _ _ _ _ I hq) (fun v s' hv=>?_) fun _ _ z=>A1u z);obtain⟨x,H',J,rv,hQ⟩:=hv;have un:Un (frs outer) [] (unc cl G) H' s.heap s'.heap:=J.base
 have ncl:∀a,a∈cl.map (·.2)->∀o,s.heap.get? a=some o->H' a=none/\s'.heap.get? a=some o:=fun a ha o e=>by
  obtain⟨o2,u,h1,h2,h3⟩:=cob a ha;have nf:a∉frs outer:=fun z=>by rw[e0.frf a z] at h1;cases h1
  exact⟨un.free a o e (d0a ha) (by simp),un.keep a o e (d0a ha) nf (by simp)⟩
 refine⟨x,rec_ cl G H',J.os,J.bare,⟨fun b o e n hb hx=>un.keep b o e (nofr b n) hb hx,fun b o e n hb hx=>un.slot b o e (nofr b n) hb hx,fun b o e n hx=>?_,fun b o e hx=>un.there b o e hx,fun b xs e=>?_,fun b o u e=>?_,fun b q e=>?_⟩,fun b u e=>?_,rv,hQ⟩
 ·have z:b∉cl.map (·.2):=fun z=>by
   obtain⟨o2,u,h1,_⟩:=cob b z;rw[n] at h1;cases h1
  show (if b∈cl.map (·.2) then G b else H' b)=none
  rw[if_neg z];exact un.free b o e (nofr b n) hx
 ·have z:b∉cl.map (·.2):=fun z=>by
   obtain⟨o2,u,h1,_⟩:=cob b z;rw[e] at h1;cases h1
  show (if b∈cl.map (·.2) then G b else H' b)=_
  rw[if_neg z];exact un.tups b xs (by rw[a4k z];exact e)
 ·have z:b∉cl.map (·.2):=fun z=>by
   obtain⟨o2,u,h1,_⟩:=cob b z;rw[e] at h1;cases h1
  show (if b∈cl.map (·.2) then G b else H' b)=_
  rw[if_neg z];exact un.frzs b o u (by rw[a4k z];exact e)
 ·have z:b∉cl.map (·.2):=fun z=>by
   obtain⟨o2,u,h1,_⟩:=cob b z;rw[e] at h1;cases h1
  obtain⟨m1,e3⟩:=un.tbls b q (by rw[a4k z];exact e);refine⟨m1,?_⟩;show (if b∈cl.map (·.2) then G b else H' b)=_
  rw[if_neg z];exact e3
 ·have e':(if b∈cl.map (·.2) then G b else H' b)=some u:=e
  by_cases z:b∈cl.map (·.2)
  ·rw[if_pos z] at e';obtain⟨o2,u2,h1,h2,h3⟩:=cob b z;rw[h1] at e';cases e';exact d3f (ncl b z o2 h3).2
  ·rw[if_neg z] at e'
   have outs:∀d u2,H' d=some u2->d∉cl.map (·.2):=fun d u2 e3 z2=>by
    obtain⟨o,_,_,_,h3⟩:=cob d z2;rw[(ncl d z2 o h3).1] at e3;cases e3
   refine(J.hok b u e').stay (fun d v _ q=>q) (fun d q=>?_) fun d xs q=>?_
   ·show (if d∈cl.map (·.2) then G d else H' d)=_
    rw[if_neg (outs d _ q)];exact q
   ·show (if d∈cl.map (·.2) then G d else H' d)=_
    rw[if_neg (outs d _ q)];exact q
theorem rec_unc (cl:List (Str×Addr))(G:Hp):rec_ cl G (unc cl G)=G:=by
 funext b
 unfold rec_ unc
 by_cases z:b∈cl.map (·.2)
 ·rw[if_pos z]
 ·rw[if_neg z,if_neg z]
structure LCal (P:Program)(w:World)(K:A0a)(mg:Str->Option Value)(base:Heap)(k:Nat)(L:Addr->List V->Hp->VK->Prop):Prop where
 fn:∀f vs H Q,L f vs H Q->∃o fd,H f=some (exO f o)/\o.data=.func fd
 run:∀(f:Addr) (A:Around) (outer:List Env) (s:Shared) (H:Hp) (us:List Value) (vs:List V) (Q:VK),b4h k A->Env0 P w K mg base A outer s H->a5f vs us->L f vs H Q->
  codeAny (model P w) A (.call (.ref f) ⟨us,[]⟩) (CR CX0 outer P w H s Q E0) s
def tCallF (i:Nat)(L:Addr->List V->Hp->VK->Prop)(t:TA):TE:=fun σ H Q=>∃f o fd,σ[i]? = some (some (.ref f))/\H f=some (exO f o)/\o.data=.func fd/\t σ H fun vs H1=>L f vs H1 Q
theorem fn_at {w:World}{h:Heap}(ok:HOk P w H h)(e:H f=some (exO f o))(d:o.data=.func fd):PySem.W.FnAt f h:=by
 have:=c1t (ok _ _ e);obtain⟨a,b,c,d'⟩:=o;cases d;exact⟨_,_,_,_,this⟩
theorem pe_callF {pos:Pos}{es:List Expr}{t:TA}{L:Addr->List V->Hp->VK->Prop}(i:Nat)(c:LCal X.prog X.w X.K X.mg X.base k L)(hr:b4h j X.A)(ha:PA X (e::es) t)(hk:k<=j:=by decide)
  (hN:X.N[i]? = some x:=by rfl) (hv:Vis X.env.scope x:=by first|exact Or.inl rfl|exact Or.inr (Or.inl rfl)|exact Or.inr (Or.inr rfl)) (hd:(x==("__debug__":Str))=false:=by decide) (hcd:(x==("__classdict__":Str))=false:=by decide)
  (he:starEach (e::es) X.env=(false,eval e X.env)::starEach es X.env:=by rfl) (hpl:(backTo pos (starEach es X.env)).any (·.1)=false:=by rfl) :
  PE X (.Call (.Name x p) (e::es) [] pos) (tCallF i L t):=by
 intro pins s0 σ H0 Q I0 h;obtain⟨f,o,fd,hσ,hf,hfd,h⟩:=h;refine A4j (thn (pe_var (pos:=p) hN hv hd hcd pins s0 σ H0 (fun v H1=>v=.ref f/\H1=H0) I0 ⟨.ref f,hσ,rfl,rfl⟩) fun u s1 hq9=>?_);obtain⟨v,H1,I1,r1,q1,q2⟩:=hq9;subst q1 q2;obtain rfl:u=A1w f:=r1;refine PySem.W.callWith_F (fn_at I1.hok hf hfd) (thn (ha pos pins s1 σ H1 _ I1 h) fun us s ⟨vs,H,I,r,q⟩=>?_) he hpl;obtain⟨o2,fd2,e2,d2⟩:=c.fn f vs H Q q;refine⟨fn_at I.hok e2 d2,B1w (A6q (c.run f X.A X.stack s H us vs Q (hr.mono hk) I.env0 r q) fun rr s' hq=>?_)⟩
 cases rr with
 | error e=>exact A1u hq
 | ok fl=>
  cases fl with
  | ret u=>exact I.after hq
  | next=>exact A1u hq
  | brk=>exact A1u hq
  | cont=>exact A1u hq
def lamIn (q:Str)(st:Stmt):Lam:=match (a2j st).getLast? with
 | some (.Return (some (.Call _ as _ _)) _)=>(match as.getLast? with
  | some (.Lambda ps b sc pos)=>⟨q,ps,b,sc,pos⟩
  | _=>⟨q,a2w st,.Name "" ⟨0,0,0,0⟩,a0f st,⟨0,0,0,0⟩⟩)
 | _=>⟨q,a2w st,.Name "" ⟨0,0,0,0⟩,a0f st,⟨0,0,0,0⟩⟩
theorem a4j.same {l:Lam}(s:∀a o,H a=some o->H' a=some o)(h:a4j H T l):a4j H' T l:=by
 obtain⟨ps,h1,h2,h3⟩:=h;exact⟨ps,s _ _ h1,h2,h3.imp id fun⟨c,o,g1,g2,g3⟩=>⟨c,o,g1,s _ _ g2,g3⟩⟩
theorem a4j.other {T':Addr}{l:Lam}{ps':Array Value}(s:SameX T' H H')(n:T≠T')(e:H T'=some (.tbl ps'))(h:a4j H T l):a4j H' T l:=by
 obtain⟨ps,h1,h2,h3⟩:=h;exact⟨ps,s _ _ n h1,h2,h3.imp id fun⟨c,o,g1,g2,g3⟩=>⟨c,o,g1,s _ _ (fun z=>by rw[z,e] at g2;cases g2) g2,g3⟩⟩
theorem b6z.same {l:Lam}(s:∀a o,H a=some o->H' a=some o)(h:b6z H f l cl):b6z H' f l cl:=by
 obtain⟨c,oc,pm,ctv,h1,h2,h3⟩:=h;exact⟨c,oc,pm,ctv,s _ _ h1,s _ _ h2,h3⟩
theorem Cov.same (c:Cov N σ cl H G):∀a o,H a=some o->G a=some o:=fun a o e=>by
 rw[c.off a fun z=>?_]
 ·exact e
 ·obtain⟨p,hp,rfl⟩:=List.mem_map.mp z;have:=(c.at_ p.1 p.2 hp).1;rw[e] at this;cases this
theorem Cov.un (c:Cov N σ cl H G)(s:∀a o,G a=some o->G2 a=some o):∀a o,H a=some o->unc cl G2 a=some o:=fun a o e=>by
 rw[a4k fun z=>?_]
 ·exact s _ _ (c.same a o e)
 ·obtain⟨p,hp,rfl⟩:=List.mem_map.mp z;have:=(c.at_ p.1 p.2 hp).1;rw[e] at this;cases this
theorem Cov.keeps (c:Cov N σ cl H G)(s:∀a o,G a=some o->G2 a=some o):∀p∈cl,G2 p.2=G p.2:=fun p hp=>by
 obtain⟨_,o,e,_⟩:=c.at_ p.1 p.2 hp;rw[e,s _ _ e]
theorem d7d {t:TA}(h:t σ H fun vs H1=>∀G,Cov N σ cl H1 G->sp vs G (fun v G2=>(∀p∈cl,G2 p.2=G p.2)/\Q v (unc cl G2)) E0):tCallC N sp cl t σ H Q:=h
theorem st_lam {l:Lam}(t:a4j H T l)(h:∀f H',SameX T H H'->a4j H' T l->H f=none->b6z H' f l cl->Q (.ref f) H'):tLam T l cl σ H Q:=⟨t,h⟩
theorem st_callF {i:Nat}{L:Addr->List V->Hp->VK->Prop}{t:TA}(e:σ[i]? = some (some (.ref f)))(h1:H f=some (exO f o))(h2:o.data=.func fd)(h:t σ H fun vs H1=>L f vs H1 Q):tCallF i L t σ H Q:=⟨f,o,fd,e,h1,h2,h⟩
theorem a4j.start {l:Lam}(h:H T=some (.tbl #[])):a4j H T l:=⟨#[],h,trivial,.inl rfl⟩
theorem SqT.stayT {xs:List V}(s:a4t H H')(h:SqT K H a xs):SqT K H' a xs:=by
 rcases h with (h|⟨o,h⟩)|h
 ·exact .inl (.inl (s _ _ h (by intro p z;cases z)))
 ·exact .inl (.inr ⟨o,s _ _ h (by intro p z;cases z)⟩)
 ·exact .inr h
structure FunC (K:A0a)(x qual:Str)(st:Stmt)(f:Addr)(fd:FuncData)(c:Addr):Prop where
 ex:∃(oc:Value) (od:Option Addr) (kV doc pm:Value) (an:Option Addr) (ct:Value) (osl:Array (Option Value)),
  fd=A1x x qual (a2w st) (a2j st) (a0f st) .none kV doc pm an (.ref c) ct/\K.lookup f=some ⟨oc,od,.func fd,osl⟩/\A2t K (.ref c) qual=true
 kp:A1s K (.ref f)=true
section
variable {P:Program}{w:World}{K:A0a}{mg:Str->Option Value}{base:Heap}
theorem FunC.ok {qual:Str}(F:FunC K x qual st f fd c)(S:a0r N ps (a0f st))(len:∀vs H Q E,sp vs H Q E->vs.length=ps.length)
  (hbody:∀(A:Around) (outer:List Env) (s:Shared) (H:Hp) (vs:List V) (Q:VK) (E:XK),b4h k (A.deeper (envOfC qual (a0f st) s.heap.objs.size f (.ref c)))->sp vs H Q E->
   ∃t,PSs (cxOf CX0 P w K mg base N qual (a0f st) f (.ref c) A outer s H E).nox (a2j st) t/\t { nx:=fun _ H'=>Q .non H',rt:=Q } (start N vs) H):a2k P w K mg base CX0 (k+1) f fd ps sp:=by
 obtain⟨oc,od,kV,doc,pm,an,ct,osl,rfl,lk,hcd⟩:=F.ex;refine fn_of lk hcd S len fun A outer s H vs Q E hr hsp=>?_;obtain⟨t,h,q⟩:=hbody A outer s H vs Q E hr hsp;exact⟨t,h.nox,q⟩
theorem FunC.binds {qual:Str}(F:FunC K x qual st f fd c)
  (h:∀(kV doc pm:Value) (an:Option Addr) (cdv ct:Value) (us:List Value),us.length=ps.length->bindArgs (A1x x qual (a2w st) (a2j st) (a0f st) .none kV doc pm an cdv ct) ⟨us,[]⟩=pure (ps.zip us)):b9e K fd ps []:=by
 obtain⟨oc,od,kV,doc,pm,an,ct,osl,rfl,lk,hcd⟩:=F.ex;exact .all (h kV doc pm an (.ref c) ct)
theorem d4w {qual:Str}{kV:Value}(l:K.lookup f=some ⟨oc,od,.func (A1x x qual (a2w st) (a2j st) (a0f st) .none kV doc pm an (.ref c) ct),osl⟩)
  (h:A2t K (.ref c) qual=true) (k:A1s K (.ref f)=true):FunC K x qual st f (A1x x qual (a2w st) (a2j st) (a0f st) .none kV doc pm an (.ref c) ct) c:=⟨⟨oc,od,kV,doc,pm,an,ct,osl,rfl,l,h⟩,k⟩
end
theorem pe_fnL {qual:Str}{pos lpos p:Pos}{body:Expr}{params:Arguments}{scope:Scope}{c0:Addr}(c:Cal X.prog X.w X.K X.mg X.base CX0 k x ps sp)(hr:b4h j X.A)(C:A4r X.base c0 T)(B:BltM X.mg X.base)(he:PE X e te)
  (hk:k<=j:=by decide) (hg:Gl X x:=by rfl) (hdb:(x==("__debug__":Str))=false:=by decide)
  (hcode:X.env.code=.ref c0:=by rfl) (hq:X.env.qual ++ "<lambda>" = qual:=by rfl) (hdef:defaultsOf params X.env=([],[]):=by rfl) (hc0:closureFor scope X.env=pure cl:=by rfl)
  (h1:starEach [e,.Lambda params body scope lpos] X.env=(false,eval e X.env)::starEach [.Lambda params body scope lpos] X.env:=by rfl) (h2:(backTo pos (starEach [.Lambda params body scope lpos] X.env)).any (·.1)=false:=by rfl)
  (h3:starEach [.Lambda params body scope lpos] X.env=(false,eval (.Lambda params body scope lpos) X.env)::starEach [] X.env:=by rfl)
  (hcl:∀y a,(y,a)∈cl->X.env.cells.lookup y=some a/\X.env.kindOf y=some .cell/\X.fn y=true:=by (intro y a h;first|(cases h with|head=>exact⟨rfl,rfl,rfl⟩|tail _ h=>cases h)|(cases h with|head=>exact⟨rfl,rfl,rfl⟩|tail _ h=>cases h with|head=>exact⟨rfl,rfl,rfl⟩|tail _ h=>cases h))) :
  PE X (.Call (.Name x p) [e,.Lambda params body scope lpos] [] pos) (tCallC X.N sp cl (d1f te (d1f (tLam T ⟨qual,params,body,scope,lpos⟩ cl) tNil))):=
 pe_fnC c hr hcl (a0a he (a0a (pe_lam C B hcode hq hdef hc0) a0j h3) h1) hk hg hdb h1 h2
theorem law_callT {P:Program}{w:World}{mg mb:Str->Option Value}{CX:CXT}{fa:Addr}{fd:FuncData}{sp:Sp}{s₁:Shared}{vs:List Value}{ns:List Int}
  (KX:K.In s₁.heap) (hns:s₁.heap.Ns mainGlobals mg) (hb:s₁.heap.Ns builtinsNs mb) (hbb:∀x:Str,x ≠ "__name__"->mb x=bootBuiltins x) (hlim:s₁.heap.NoLimit) (hbm:BltM mg s₁.heap) (hg:s₁.gens= #[])
  (hT:B2f tabs s₁.heap) (hnt:B2g K=true)
  (ha:s₁.heap.get? a=some { cls:=.type "list",data:=.seq vs.toArray }) (hi:IntsAre vs ns) (hl:ns.length<=sizeLine) (hr:b4h k callerA)
  (F:∀base:Heap,K.In base->base.Ns mainGlobals mg->BltM mg base->a2k P w K mg base CX k fa fd [x] sp) (hbind:∀(s:Shared) (u:Value),BindsTo s fd ⟨[u],[]⟩ [(x,u)])
  (hsp:∀H:Hp,SqL K H a (ns.map V.int)->(∀q∈tabs,H q.2=some (.tbl #[]))->sp [.ref a] H (fun v _=>v=.bl true) fun _ _ _=>False)
  (hCX:∀H e s',CX [] H s₁ (fun _ _ _=>False) e s'->False) :
  codeAny (model P w) callerA (.call (.ref fa) ⟨[.ref a],[]⟩) (fun r s'=>r=.ok (.ret (.bool true))/\OldK s₁.heap s'.heap/\s'.os=s₁.os/\AllBare s'.gens) s₁:=by
 have rv:=vals_ints hi;have lenV:=hi.length
 have tat:∀b,b∈tabs.map (·.2)->s₁.heap.get? b=some (A9w #[]):=fun b hb=>by
  obtain⟨q,hq,rfl⟩:=List.mem_map.mp hb;exact(hT q hq).2
 have core:∀H:Hp,(∀b u,H b=some u->(b∈tabs.map (·.2)/\u=.tbl #[])\/∃o xs,b=a/\u=.frz o (.lst xs)/\K.lookup a=none)->(∀b,b∈tabs.map (·.2)->H b=some (.tbl #[]))->SqL K H a (ns.map V.int)->HOk P w H s₁.heap->
   codeAny (model P w) callerA (.call (.ref fa) ⟨[.ref a],[]⟩) (fun r s'=>r=.ok (.ret (.bool true))/\OldK s₁.heap s'.heap/\s'.os=s₁.os/\AllBare s'.gens) s₁:=by
  intro H hO hTb hS hok;have base_of:∀{b:Addr} {o:Obj},s₁.heap.get? b=some o->H b=none->(hidT s₁.heap H).get? b=some o:=fun e n=>hidT_get e n
  have noA:∀{b:Addr} {o:Obj},s₁.heap.get? b=some o->o≠A9w #[]->o.cls≠.type "list"->H b=none:=fun {b o} e n1 n2=>by
   cases q:H b with
   | none=>rfl
   | some u=>
    rcases hO b u q with ⟨z,_⟩|⟨_,_,z,_⟩
    ·rw[tat b z] at e;exact(n1 (A0j e).symm).elim
    ·rw[z,ha] at e;cases e;exact(n2 rfl).elim
  have nsK:∀{b:Addr} {m:Str->Option Value},s₁.heap.Ns b m->(hidT s₁.heap H).Ns b m:=fun {b m} ⟨o,es,ep,e,d,r⟩=>by
   refine⟨o,es,ep,base_of e ?_,d,r⟩
   cases q:H b with
   | none=>rfl
   | some u=>
    rcases hO b u q with ⟨z,_⟩|⟨_,_,z,_⟩
    ·rw[tat b z] at e;cases e;cases d
    ·rw[z,ha] at e;cases e;have d':Data.seq vs.toArray _=Data.dict es ep:=d;cases d'
  have hKb:K.In (hidT s₁.heap H):=fun b o e=>base_of (KX b o e) (by
   cases q:H b with
   | none=>rfl
   | some u=>
    rcases hO b u q with ⟨z,_⟩|⟨_,_,z,_,z2⟩
    ·have e1:=KX b o e;rw[tat b z] at e1;cases e1;have h2:=List.all_eq_true.mp hnt (b,_) (PySem.W.mem_of_lookupK e);exact absurd (show false=true from h2) A1d
    ·rw[z,z2] at e;cases e)
  have hbmb:BltM mg (hidT s₁.heap H):=by
   obtain⟨bm,ob,b1,b2,b3,b4,b5,b6⟩:=hbm;exact⟨bm,ob,b1,b2,base_of b3 (noA b3 (fun z=>by rw[z] at b4;cases b4) (by rw[b4];decide)),b4,b5,b6⟩
  have hM:Mod K mg (hidT s₁.heap H):=⟨hKb,nsK hns,⟨mb,nsK hb,hbb⟩,let ⟨mc,h1,h2⟩:=hlim;⟨mc,nsK h1,h2⟩⟩;have e0:Env0 P w K mg (hidT s₁.heap H) callerA [] s₁ H:=⟨rfl,hM,fun b o e=>of_hidT e,B3j (hidT_size _ _),trivial,fun b hb=>absurd (show b∈([]:List Addr) from hb) (by simp),hok,.of_eq hg⟩;refine A6q ((F _ hKb (nsK hns) hbmb).run callerA [] s₁ H ⟨[.ref a],[]⟩ [.ref a] [.ref a] _ _ hr e0 (hbind s₁ (.ref a)) (.cons rfl .nil) (hsp H hS fun q hq=>hTb q.2 (List.mem_map.mpr ⟨q,hq,rfl⟩))) fun r s' h=>?_
  cases r with
  | error e=>exact(hCX H e s' h).elim
  | ok fl=>
   cases fl with
   | next=>exact A1u h
   | brk=>exact A1u h
   | cont=>exact A1u h
   | ret u=>
    obtain⟨v,H',os,bare,un,hok',r',q⟩:=h;have q':v=.bl true:=q;subst q';obtain rfl:u=B1v true:=r';refine⟨rfl,⟨fun b o e=>?_,fun b o e=>un.there b o e (by simp)⟩,os,bare⟩
    cases q:H b with
    | none=>exact .inl (un.keep b o e q (by intro z;exact absurd (show b∈([]:List Addr) from z) (by simp)) (by simp))
    | some u=>
     rcases hO b u q with ⟨z,rfl⟩|⟨ob,xs,rfl,rfl,_⟩
     ·obtain⟨more,e2⟩:=un.tbls b _ q;have e3:s'.heap.get? b=some (A9w (#[]++more)):=hok' b _ e2;have e4:=tat b z;rw[e] at e4;cases e4;obtain⟨p,hp,rfl⟩:=List.mem_map.mp z;exact .inr (.inl ⟨((hT p hp).1.tab (hT p hp).2).isCodeTable,rfl,#[],more,rfl,e3⟩)
     ·have z2:=un.frzs b ob _ q;obtain⟨e1,_⟩:=hok b _ q;obtain⟨e2,_⟩:=hok' b _ z2;rw[e] at e1;cases e1;exact .inl e2
 have nat:a∉tabs.map (·.2):=fun z=>by rw[tat a z] at ha;cases ha
 cases hk:K.lookup a with
 | some o=>
  have e:=KX a o hk;rw[ha] at e;cases e;refine core (fun b=>if b∈tabs.map (·.2) then some (.tbl #[]) else none) (fun b u e=>?_) (fun b hb=>if_pos hb) (.inr ⟨_,vs.toArray,_,hk,rfl,rfl,rfl,by rw[A1f,lenV];exact hl,by simpa using rv⟩) (fun b u e=>?_)
  ·by_cases z:b∈tabs.map (·.2)
   ·exact .inl ⟨z,(A0j ((if_pos z).symm.trans e)).symm⟩
   ·have:=(if_neg z).symm.trans e;cases this
  ·by_cases z:b∈tabs.map (·.2)
   ·have:=(if_pos z).symm.trans e;cases this;exact tat b z
   ·have:=(if_neg z).symm.trans e;cases this
 | none=>
  refine core (fun b=>if b∈tabs.map (·.2) then some (.tbl #[]) else if b=a then some (.frz { cls:=.type "list",data:=.seq vs.toArray } (.lst (ns.map V.int))) else none) (fun b u e=>?_) (fun b hb=>if_pos hb) (.inl (.inr ⟨{ cls:=.type "list",data:=.seq vs.toArray },(if_neg nat).trans (if_pos rfl)⟩)) (fun b u e=>?_)
  ·by_cases z:b∈tabs.map (·.2)
   ·exact .inl ⟨z,(A0j ((if_pos z).symm.trans e)).symm⟩
   ·have e:=(if_neg z).symm.trans e
    by_cases z2:b=a
    ·exact .inr ⟨_,_,z2,(A0j ((if_pos z2).symm.trans e)).symm,hk⟩
    ·have:=(if_neg z2).symm.trans e;cases this
  ·by_cases z:b∈tabs.map (·.2)
   ·have:=(if_pos z).symm.trans e;cases this;exact tat b z
   ·have e:=(if_neg z).symm.trans e
    by_cases z2:b=a
    ·have:=(if_pos z2).symm.trans e;cases this;subst z2;exact⟨ha,by rw[A0c];exact hl,vs,_,rv,ha⟩
    ·have:=(if_neg z2).symm.trans e;cases this
theorem walk_ofT {l:B1u}{n:Nat}{q:Program}{loose:List Str}{XP:(Str->Option Value)->Heap->Prop}{YP:World->Heap->Prop}{d:DefRec}{K:Params->A0a}{CX:World->CXT}{sp:World->Sp}{x:Str}
  (hn:l.most=some n) (hn2:n<=sizeLine) (hdf:d.params.defaults=[]) (hr:b4h k callerA)
  (hY:∀(w:World) (h:Heap),YP w h->(K w.params).In h/\B2f tabs h) (hnt:∀w:World,B2g (K w.params)=true)
  (F:∀(w:World) (mg:Str->Option Value) (fa:Addr) (h:Heap),(K w.params).In h->h.Ns mainGlobals mg->mg d.name=some (.ref fa)->
   ∃fd:FuncData,(∀(s:Shared) (u:Value),BindsTo s fd ⟨[u],[]⟩ [(x,u)])/\
    ∀base:Heap,(K w.params).In base->base.Ns mainGlobals mg->BltM mg base->a2k l.prog w (K w.params) mg base (CX w) k fa fd [x] (sp w))
  (hsp:∀(w:World) (H:Hp) (a:Addr) (ns:List Int),ns.length<=n->SqL (K w.params) H a (ns.map V.int)->(∀q∈tabs,H q.2=some (.tbl #[]))->sp w [.ref a] H (fun v _=>v=.bl true) fun _ _ _=>False)
  (hCX:∀(w:World) (H:Hp) (s:Shared) (e:Value) (s':Shared),CX w [] H s (fun _ _ _=>False) e s'->False) :
  PySem.W.WalkO q loose XP YP l.row.toRowW d [] (fun f vs=>B3b f vs):=by
 refine Att.attach_call hn hdf fun w s₀ s₁ mg mb fa o pm cd doc a vs ns G Y ho hd hcd hmg hobj hints hlen hg=>?_;obtain⟨KX,TX⟩:=hY w _ Y;obtain⟨fd,hb,hF⟩:=F w mg fa _ KX G.T.g hmg;have hbm:BltM mg s₁.heap:=G.T.bmain;exact law_callT KX G.T.g G.T.b G.T.builtins G.T.nolimit hbm hg TX (hnt w) hobj hints (A0y hlen hn2) hr hF hb (fun H hS hT=>hsp w H a ns hlen hS hT) fun H e s'=>hCX w H s₁ e s'
section
variable {X:Cx}
end
theorem cover {pins:List (Addr×Obj)}(I:Inv X pins σ H s)(hcl:∀y a,(y,a)∈cl->X.env.cells.lookup y=some a/\X.env.kindOf y=some .cell/\X.fn y=true) :
  ∃G:Hp,Cov X.N σ cl H G/\HOk X.prog X.w G s.heap/\∀a,a∈cl.map (·.2)->X.s₀.heap.objs.size<=a/\H a=none:=by
 have cin:∀a,a∈cl.map (·.2)->∃y,(y,a)∈cl:=fun a ha=>by
  obtain⟨q,hq,rfl⟩:=List.mem_map.mp ha;exact⟨q.1,hq⟩
 have cob:∀y a,(y,a)∈cl->∃o v,s.heap.get? a=some o/\o.data=.cell v:=fun y a hm=>by
  obtain⟨v,o,ho,hd⟩:=I.cell y a (hcl y a hm).1;exact⟨o,v,ho,hd⟩
 have cno:∀a,a∈cl.map (·.2)->H a=none:=fun a ha=>by
  obtain⟨y,hm⟩:=cin a ha;exact I.freeC y a (hcl y a hm).1
 have cge:∀a,a∈cl.map (·.2)->X.s₀.heap.objs.size<=a:=fun a ha=>by
  obtain⟨y,hm⟩:=cin a ha;exact I.ok.cab y a (hcl y a hm).2.2 (hcl y a hm).1
 have G_:∃G:Hp,(∀b,b∉cl.map (·.2)->G b=H b)/\∀a o,a∈cl.map (·.2)->s.heap.get? a=some o->G a=some (exO a o):=
  ⟨fun b=>if b∈cl.map (·.2) then (s.heap.get? b).map (exO b) else H b,fun b hb=>if_neg hb,fun a o ha e=>(if_pos ha).trans (by rw[e];rfl)⟩
 obtain⟨G,Goff,Gat⟩:=G_;have trk:∀b u,H b=some u->b∉cl.map (·.2):=fun b u e z=>by rw[cno b z] at e;cases e
 refine⟨G,⟨Goff,fun y a hm=>?_⟩,fun b u e2=>?_,fun a ha=>⟨cge a ha,cno a ha⟩⟩
 ·have ha:a∈cl.map (·.2):=List.mem_map.mpr ⟨(y,a),hm,rfl⟩
  obtain⟨o,v,ho,hd⟩:=cob y a hm;refine⟨cno a ha,o,Gat a o ha ho,fun i w e1 e2=>?_⟩;obtain⟨mm,hn,hl⟩:=I.loc;have hkk:X.env.scope.names.lookup y=some .cell:=(hcl y a hm).2.1;obtain⟨u,ru,lk⟩:=hl i y w e1 e2 (.inr (.inl hkk))
  rcases lk with ⟨k1,_⟩|⟨_,a2,l2,o2,ho2,hd2⟩
  ·rw[(hcl y a hm).2.1] at k1;cases k1
  ·rw[(hcl y a hm).1] at l2;cases l2;rw[ho] at ho2;cases ho2;exact⟨u,hd2,ru⟩
 ·by_cases hb:b∈cl.map (·.2)
  ·obtain⟨y,hm⟩:=cin b hb;obtain⟨o,v,ho,_⟩:=cob y b hm;rw[Gat b o hb ho] at e2;cases e2;exact d3f ho
  ·rw[Goff b hb] at e2;exact(I.hok b u e2).stay (fun d v _ q=>q) (fun d q=>by rw[Goff d (trk d _ q)];exact q) fun d xs q=>by rw[Goff d (trk d _ q)];exact q
section
variable {P:Program}{w:World}{K:A0a}{mg:Str->Option Value}{base:Heap}
theorem FunC.okRet {qual:Str}{st1:Stmt}{k:Nat}{l:Lam}{rp:Pos}{clf:Addr->List (Str×Addr)}(F:FunC K x qual st f fd c)(S:a0r N ps (a0f st))(C:A4r base c T)(B:BltM mg base)
  (hb:a2j st=[st1,.Return (some (.Lambda l.params l.body l.scope l.pos)) rp]) (hq:∀L:Addr,(envOfC qual (a0f st) L f (.ref c)).qual ++ "<lambda>" = l.qual) (hdef:∀env,defaultsOf l.params env=([],[]))
  (hcl:∀L:Addr,closureFor l.scope (envOfC qual (a0f st) L f (.ref c))=pure (clf L)) (hcc:∀L y a,(y,a)∈clf L->(envOfC qual (a0f st) L f (.ref c)).cells.lookup y=some a/\(envOfC qual (a0f st) L f (.ref c)).kindOf y=some .cell)
  (len:∀vs H Q E,sp vs H Q E->vs.length=ps.length)
  (hbody:∀(A:Around) (outer:List Env) (s:Shared) (H:Hp) (vs:List V) (Q:VK) (E:XK),b4h k (A.deeper (envOfC qual (a0f st) s.heap.objs.size f (.ref c)))->sp vs H Q E->
   ∃t,PS (cxOf CX0 P w K mg base N qual (a0f st) f (.ref c) A outer s H E).nox st1 t/\t { nx:=fun σ1 H1=>a4j H1 T l/\∀f' H2,SameX T H1 H2->a4j H2 T l->H1 f'=none->b6z H2 f' l (clf s.heap.objs.size)->∀G,Cov N σ1 (clf s.heap.objs.size) H2 G->Q (.ref f') G,rt:=fun _ _=>False } (start N vs) H):a2k P w K mg base CX0 (k+1) f fd ps sp:=by
 obtain⟨oc,od,kV,doc,pm,an,ct,osl,rfl,lk,hcd⟩:=F.ex;refine⟨len,fun A outer s H args us vs Q E hr e0 hbd r hsp=>?_⟩;have hl:=len _ _ _ _ hsp;have KX:K.In s.heap:=e0.mod.kin.keeps fun b o e=>(e0.bs b o e).1;have lim:s.heap.NoLimit:=e0.mod.nolimit.keeps fun b o e=>(e0.bs b o e).1
 have hkind:∀y∈ps.zip us,(a0f st).names.lookup y.1=some .local\/((a0f st).names.lookup y.1=some .cell/\((cellsFrom (s.heap.objs.size+1) (a0f st).names []).lookup y.1).isSome=true):=fun⟨n,v⟩ hy=>by
  rcases S.par n (A6w hy).1 with q|q
  ·exact .inl q
  ·exact .inr ⟨q,A7f _ _ _ (.inl q)⟩
 refine codeAny_call_function hr.depth (KX _ _ lk) rfl S.co S.gen rfl (B2t KX hcd) (hbd _ _ _ _ ?_);refine A9b S.kind hkind fun env he s1 x=>?_;subst he;refine⟨lim.keeps x.toInCall.keep,codeAny_func ?_⟩;obtain⟨t,ht,hq'⟩:=hbody A outer s H vs Q E (hr.deeper _) hsp;have I:Inv (cxOf CX0 P w K mg base N qual (a0f st) f (.ref c) A outer s H E) [] (start N vs) H s1:=inv_start S hr.hd e0 hl r x;rw[hb];refine A7y (A2m (ht [] s1 (start N vs) H _ (I.wish _) hq') (fun fl s2 hs=>?_) fun _ _ z=>A1u z);have hs:=hs.unwish
 cases fl with
 | brk=>
  obtain⟨_,_,_,q⟩:=hs;exact A1u q
 | cont=>
  obtain⟨_,_,_,q⟩:=hs;exact A1u q
 | ret u=>
  obtain⟨_,_,_,_,_,q⟩:=hs;exact A1u q
 | next=>
  obtain⟨σ1,H1,I1,tb,q⟩:=hs;have I1w:Inv (cxOf CX0 P w K mg base N qual (a0f st) f (.ref c) A outer s H E).nox [] σ1 H1 s2:=I1.wish _;have hcode:(cxOf CX0 P w K mg base N qual (a0f st) f (.ref c) A outer s H E).nox.env.code=.ref c:=rfl;have hcl':closureFor l.scope (cxOf CX0 P w K mg base N qual (a0f st) f (.ref c) A outer s H E).nox.env=pure (clf s.heap.objs.size):=hcl _;have hq2:(cxOf CX0 P w K mg base N qual (a0f st) f (.ref c) A outer s H E).nox.env.qual ++ "<lambda>" = l.qual:=hq _;have ml:=make_lam (Q:=fun v s3=>CE outer P w H s Q v s3) I1w hcode C B hq2 (hdef _) hcl' tb;refine A7y (wpAny_Return_some (A2m (ml fun f' H2 s3 I2 sx tb2 fr la=>?_) (fun _ _ z=>z) fun _ _ z=>A1u z));have I2:=I2.unwish;obtain⟨G,cov,hok,cge⟩:=cover (cl:=clf s.heap.objs.size) I2 fun y a hm=>⟨(hcc _ y a hm).1,(hcc _ y a hm).2,rfl⟩;have base0:Un (frs outer) [] H H2 s.heap s3.heap:=I2.base
  have offs:∀b u,H2 b=some u->G b=some u:=fun b u e=>by
   rw[cov.off b fun z=>?_]
   ·exact e
   ·rw[(cge b z).2] at e;cases e
  have un:Un (frs outer) [] H G s.heap s3.heap:=by
   refine⟨fun b o e n h1 h2=>base0.keep b o e n h1 h2,fun b o e n h1 h2=>base0.slot b o e n h1 h2,fun b o e n hx=>?_,fun b o e hx=>base0.there b o e hx,fun b xs e=>offs _ _ (base0.tups b xs e),fun b o u e=>offs _ _ (base0.frzs b o u e),fun b ps e=>?_⟩
   ·rw[cov.off b fun z=>?_]
    ·exact base0.free b o e n hx
    ·exact absurd (A0g (A0n e) (cge b z).1) (A2v _)
   ·obtain⟨m,e2⟩:=base0.tbls b ps e;exact⟨m,offs _ _ e2⟩
  have hok':HOk P w G s3.heap:=hok;have hQ:Q (.ref f') G:=q f' H2 sx tb2 fr la G cov;exact⟨.ref f',G,I2.os,I2.bare,un,hok',rfl,hQ⟩
end
def tCallE (te:TE)(L:Addr->List V->Hp->VK->Prop):TE:=fun σ H Q=>te σ H fun v H1=>∃f,v=.ref f/\L f [] H1 Q
theorem pe_callE {pos:Pos}{fe:Expr}{L:Addr->List V->Hp->VK->Prop}(c:LCal X.prog X.w X.K X.mg X.base k L)(hr:b4h j X.A)(he:PE X fe te)(hk:k<=j:=by decide)
  (ht:eval (.Call fe [] [] pos) X.env=(do callWith pos (<- eval fe X.env) [] (backTo pos (starEach [] X.env)) (backToKw pos (keywordEach [] X.env))):=by rfl):PE X (.Call fe [] [] pos) (tCallE te L):=by
 intro pins s0 σ H0 Q I0 h;rw[ht];refine A0b (thn (he pins s0 σ H0 _ I0 h) fun u s hq9=>?_);obtain⟨v,H,I,r,f,e,q⟩:=hq9;subst e;obtain rfl:u=A1w f:=r;obtain⟨o,fd,e2,d2⟩:=c.fn f [] H Q q;refine PySem.W.callWith_F0 (fn_at I.hok e2 d2) (B1w (A6q (c.run f X.A X.stack s H [] [] Q (hr.mono hk) I.env0 .nil q) fun rr s' hq=>?_))
 cases rr with
 | error e=>exact A1u hq
 | ok fl=>
  cases fl with
  | ret u=>exact I.after hq
  | next=>exact A1u hq
  | brk=>exact A1u hq
  | cont=>exact A1u hq
theorem st_callE {L:Addr->List V->Hp->VK->Prop}(h:te σ H fun v H1=>∃f,v=.ref f/\L f [] H1 Q):tCallE te L σ H Q:=h
structure FunD (K:A0a)(x qual:Str)(st:Stmt)(f:Addr)(fd:FuncData)(d:Value):Prop where
 ex:∃(oc:Value) (od:Option Addr) (kV doc pm:Value) (an:Option Addr) (cdv ct:Value) (osl:Array (Option Value)) (T:Addr) (o2:Obj) (n2:Nat),
  fd=A1x x qual (a2w st) (a2j st) (a0f st) (.ref T) kV doc pm an cdv ct/\K.lookup f=some ⟨oc,od,.func fd,osl⟩/\A2t K cdv qual=true/\K.lookup T=some o2/\o2.data=.seq #[d] n2
 kp:A1s K (.ref f)=true
section
variable {P:Program}{w:World}{K:A0a}{mg:Str->Option Value}{base:Heap}
theorem FunD.binds {qual:Str}{ds:List Value}(F:FunD K x qual st f fd d)
  (h:∀(T:Addr) (kV doc pm:Value) (an:Option Addr) (cdv ct:Value) (us:List Value),(us++ds).length=ps.length->∃k:Option (Array Value)->Sem (List (Str×Value)),bindArgs (A1x x qual (a2w st) (a2j st) (a0f st) (.ref T) kV doc pm an cdv ct) ⟨us,[]⟩=seqItems? (.ref T) >>= k/\k (some #[d])=pure (ps.zip (us++ds))):b9e K fd ps ds:=by
 obtain⟨oc,od,kV,doc,pm,an,cdv,ct,osl,T,o2,n2,rfl,lk,hcd,l2,e2⟩:=F.ex;intro s us KX hl;obtain⟨k,e1,e3⟩:=h T kV doc pm an cdv ct us hl;exact .of_defaults rfl (KX _ _ l2) e2 e1 e3
theorem fund_mk {qual:Str}{oc2:Value}{od2:Option Addr}{sl2:Array (Option Value)}{kV cdv:Value}{n2:Nat}(l:K.lookup f=some ⟨oc,od,.func (A1x x qual (a2w st) (a2j st) (a0f st) (.ref T) kV doc pm an cdv ct),osl⟩)
  (c:A2t K cdv qual=true) (k:A1s K (.ref f)=true) (t:K.lookup T=some ⟨oc2,od2,.seq #[d] n2,sl2⟩):FunD K x qual st f (A1x x qual (a2w st) (a2j st) (a0f st) (.ref T) kV doc pm an cdv ct) d:=⟨⟨oc,od,kV,doc,pm,an,cdv,ct,osl,T,_,n2,rfl,l,c,t,rfl⟩,k⟩
end
section
variable {X:Cx}{CX:CXT}{j k:Nat}{ι:Type}{CD:ι->Addr}{spm:ι->Sp}{ps:List Str}{E:XK}{m:Str}{pos apos:Pos}{e o:Expr}{es:List Expr}{ta:TE}{t:TA}
end
def lamRet (q:Str)(st:Stmt):Lam:=match (a2j st).getLast? with
 | some (.Return (some (.Lambda ps b sc pos)) _)=>⟨q,ps,b,sc,pos⟩
 | _=>⟨q,a2w st,.Name "" ⟨0,0,0,0⟩,a0f st,⟨0,0,0,0⟩⟩
section
variable {X:Cx}
end
section
variable {X:Cx}{j k:Nat}{ι:Type}{CD:ι->Addr}{spm:ι->Sp}{ps:List Str}{m:Str}{pos apos:Pos}{e o:Expr}{es:List Expr}{ta:TE}{t:TA}
end
section
variable {prog:Program}{w:World}{A:Around}{E:Value->Shared->Prop}{s:Shared}{da ia:Addr}{es:Array DictEntry}{ep i:Nat}
end
section
variable {X:Cx}
end
section
variable {K:A0a}{H:Hp}{Q:VK}{a:Addr}{kvs:List (List Key×V)}{σ:St}{tk tv:TE}
end
end L2
namespace Tw
open PySem L2
end Tw
namespace L2
open PySem
section
variable {X:Cx}
end
end L2
namespace Tw
open PySem L2
variable {N a b d:Nat}{r:Row}
theorem a4h (f a b:Nat):pb (f&&&(a^^^b))=(pb (f&&&a) ^^ pb (f&&&b)):=by
 rw[Nat.and_xor_distrib_left,b9k]
theorem pb_pow_and (j b:Nat):pb (2^j&&&b)=b.testBit j:=by
 rw[A0v,and_pow,d2f]
theorem bit_of (h:b≠0)(hb:b<2^N):∃j,j<N/\b.testBit j=true:=by
 obtain⟨j,hj⟩:=Nat.exists_testBit_of_ne_zero h;refine⟨j,?_,hj⟩
 rcases A4d j N with h1|h1
 ·exact h1
 ·rw[A2k (A0g hb (A0w (by decide) h1))] at hj;cases hj
theorem dual {N:Nat}:∀(l:List Nat) (b:Nat),(∀u∈l,u<2^N)->b<2^N->¬Spn l b->∃d,d<2^N/\(∀u∈l,pb (d&&&u)=false)/\pb (d&&&b)=true
 | [],b,_,hb,h=>by
  obtain⟨j,h1,h2⟩:=bit_of (N:=N) (fun z=>h ((sp_nil b).2 z)) hb;exact⟨2^j,A1r (by decide) h1,fun _ z=>(nomatch z),by rw[pb_pow_and];exact h2⟩
 | c::l,b,hl,hb,h=>by
  rw[a3g] at h;have hc:=hl c A0k;have hl':∀u∈l,u<2^N:=fun u hu=>hl u (A0d _ hu);obtain⟨d1,a1,a2,a3⟩:=dual l b hl' hb fun z=>h (.inl z);obtain⟨d2,b1,b2,b3⟩:=dual l (b^^^c) hl' (A0z hb hc) fun z=>h (.inr z);rw[a4h] at b3
  have mk:∀d,d<2^N->(∀u∈l,pb (d&&&u)=false)->pb (d&&&c)=false->pb (d&&&b)=true->∃d,d<2^N/\(∀u∈c::l,pb (d&&&u)=false)/\pb (d&&&b)=true:=fun d e1 e2 e3 e4=>⟨d,e1,fun u hu=>by
   rcases A3a.1 hu with rfl|hu
   ·exact e3
   ·exact e2 u hu,e4⟩
  cases hc1:pb (d1&&&c) with
  | false=>exact mk d1 a1 a2 hc1 a3
  | true=>
   cases hc2:pb (d2&&&c) with
   | false=>
    rw[hc2] at b3;exact mk d2 b1 b2 hc2 (by simpa using b3)
   | true=>
    rw[hc2] at b3;have hb2:pb (d2&&&b)=false:=by simpa using b3
    refine mk (d1^^^d2) (A0z a1 b1) (fun u hu=>?_) ?_ ?_
    ·rw[A0v,a4h,A0v u,A0v u,a2 u hu,b2 u hu];rfl
    ·rw[A0v,a4h,A0v c,A0v c,hc1,hc2];rfl
    ·rw[A0v,a4h,A0v b,A0v b,a3,hb2];rfl
theorem duals {N:Nat}:∀(us:List Nat),Ind us->(∀u∈us,u<2^N)->∃D:List Nat,D.length=us.length/\(∀d∈D,d<2^N)/\∀{i j d u:Nat},D[i]? = some d->us[j]? = some u->pb (d&&&u)=decide (i=j)
 | [],_,_=>⟨[],rfl,fun _ z=>(nomatch z),fun {i j d u} z _=>by simp at z⟩
 | b::l,hi,hb=>by
  obtain⟨h1,h2⟩:¬Spn l b/\Ind l:=hi;have hl:∀u∈l,u<2^N:=fun u hu=>hb u (A0d _ hu);obtain⟨D,e1,e2,e3⟩:=duals l h2 hl;obtain⟨d0,f1,f2,f3⟩:=dual l b hl (hb b A0k) h1;refine⟨d0::D.map (fun d=>if pb (d&&&b)=true then d^^^d0 else d),by simp[e1],fun d hd=>?_,fun {i j d u} hd hu=>?_⟩
  ·rcases A3a.1 hd with rfl|hd
   ·exact f1
   ·obtain⟨d',hd',rfl⟩:=A1k.1 hd
    split
    ·exact A0z (e2 d' hd') f1
    ·exact e2 d' hd'
  ·cases i with
   | zero=>
    obtain rfl:d0=d:=A0j hd
    cases j with
    | zero=>
     obtain rfl:b=u:=A0j hu;rw[f3];rfl
    | succ j=>
     rw[f2 u (List.mem_of_getElem? (show l[j]? = some u from hu))];exact(decide_eq_false (by omega)).symm
   | succ i=>
    have hd':(D.map (fun d=>if pb (d&&&b)=true then d^^^d0 else d))[i]? = some d:=hd;rw[List.getElem?_map] at hd'
    cases eD:D[i]? with
    | none=>rw[eD] at hd';cases hd'
    | some d'=>
     rw[eD] at hd';have hd2:(if pb (d'&&&b)=true then d'^^^d0 else d')=d:=A0j hd'
     cases j with
     | zero=>
      obtain rfl:b=u:=A0j hu;rw[decide_eq_false (by omega)]
      by_cases c:pb (d'&&&b)=true
      ·rw[if_pos c] at hd2;rw[<- hd2,A0v,a4h,A0v b,A0v b,c,f3];rfl
      ·rw[if_neg c] at hd2;rw[<- hd2]
       simpa using c
     | succ j=>
      have hu':l[j]? = some u:=hu;have k1:=e3 eD hu'
      have k2:decide (i+1=j+1)=decide (i=j):=by
       by_cases c:i=j
       ·rw[c,decide_eq_true rfl,decide_eq_true rfl]
       ·rw[decide_eq_false c,decide_eq_false (by omega)]
      rw[k2,<- k1]
      by_cases c:pb (d'&&&b)=true
      ·rw[if_pos c] at hd2;rw[<- hd2,A0v,a4h,A0v u,A0v u,f2 u (List.mem_of_getElem? hu')];simp
      ·rw[if_neg c] at hd2;rw[<- hd2]
theorem xsel_pb {f:Nat}:∀{l:List Nat} (m:Nat),(∀u∈l,pb (f&&&u)=false)->pb (f&&&a4f l m)=false
 | [],_,_=>by rw[show a4f [] _=0 from rfl,B3q];exact c1r
 | v::l,m,h=>by
  show pb (f&&&((if m.testBit 0=true then v else 0)^^^a4f l (m/2)))=false;rw[a4h,xsel_pb (m/2) fun u hu=>h u (A0d _ hu)]
  split
  ·rw[h v A0k];rfl
  ·rw[B3q,c1r];rfl
theorem pop_shl (c:Nat):∀n,pop (c*2^n)=pop c
 | 0=>by rw[Nat.pow_zero,Nat.mul_one]
 | n+1=>by
  rw[b3a,show c*2^(n+1)=2*(c*2^n) by rw[A2w];rw[<- Nat.mul_assoc,B1s]];rw[Nat.mul_mod_right,A7b _ (by decide),Nat.zero_add,pop_shl c n]
theorem pb_shift (a b n:Nat):pb (a*2^n&&&b*2^n)=pb (a&&&b):=by
 have e:a*2^n&&&b*2^n=(a&&&b)*2^n:=by
  rw[<- A3h,<- A3h,<- A3h];apply A0p;intro i;rw[A2f,A3r,A3r,A3r,A2f];cases decide (n<=i)<;>simp
 rw[e];unfold pb;rw[pop_shl]
theorem d7h {n:Nat}(h:a<2^n):a&&&b*2^n=0:=by
 apply A0p;intro i;rw[A2f,<- A3h,A3r,A3z]
 rcases A4d i n with hi|hi
 ·simp[Nat.not_le.2 hi]
 ·rw[A2k (A0g h (A0w (by decide) hi))];rfl
theorem pb_sn {n c:Nat}(ha:a<2^n)(hc:c<2^n):pb ((a^^^b*2^n)&&&(c^^^d*2^n))=(pb (a&&&c) ^^ pb (b&&&d)):=by
 rw[a4h,A0v,a4h,A0v _ (d*2^n),a4h,d7h hc,A0v (d*2^n) a,d7h ha,c1r,pb_shift,A0v c a,A0v d b];simp
def sw (n d:Nat):Nat:=(d/2^n)^^^(d%2^n)*2^n
theorem split_num (n d:Nat):d=(d%2^n)^^^(d/2^n)*2^n:=by
 have h:=Nat.mod_add_div d (2^n);have h1:=d7h (b:=d/2^n) (A7p d (A1m n));have h2:=b3r (d%2^n) (d/2^n*2^n);have h3:=c2g (d%2^n) (d/2^n*2^n);rw[B1s] at h;omega
theorem sw_lt {n:Nat}(h:d<2^(2*n)):sw n d<2^(2*n):=by
 unfold sw
 have h1:d/2^n<2^n:=by
  rw[A7x (A1m n),<- A7q];exact A0g h (A0w (by decide) (by omega))
 have h2:d%2^n*2^n<2^(2*n):=by
  rw[show 2*n=n+n by omega,A7q];exact A8v (A7p _ (A1m n)) (A1m n)
 exact A0z (A0g h1 (A0w (by decide) (by omega))) h2
theorem pb_sw {n:Nat}(ok:r.Ok n)(hd:d<2^(2*n)):pb (sn n ⟨0,r.z,r.x⟩&&&sw n d)=pb (sn n r&&&d):=by
 have h1:d/2^n<2^n:=by
  rw[A7x (A1m n),<- A7q];exact A0g hd (A0w (by decide) (by omega))
 conv=>rhs;rw[split_num n d]
 unfold sn sw;rw[pb_sn ok.z h1,pb_sn ok.x (A7p _ (A1m n)),B2y]
theorem symp_pb {n:Nat}{v:Row}(ok:r.Ok n)(kv:v.Ok n):pb (sn n ⟨0,r.z,r.x⟩&&&sn n v)=a3d r v:=by
 unfold sn;rw[pb_sn ok.z kv.x];unfold a3d;rw[B2y]
theorem ind_room {l:List Nat}(h:Ind l)(hl:∀u∈l,u<2^N):l.length<=N:=by
 have p:=pigeon (2^l.length) (2^N) (a4f l) (fun i _=>d5y i hl) (fun i j hi hj e=>ind_inj h hi hj e);exact(Nat.pow_le_pow_iff_right (by decide)).1 p
theorem iso {n:Nat}{rs:List Row}(ok:∀r∈rs,r.Ok n)(com:∀r∈rs,∀s∈rs,a3d r s=false)(hi:Ind (rs.map (sn n))):rs.length<=n:=by
 have hu:∀u∈rs.map (sn n),u<2^(2*n):=fun u hu=>by
  obtain⟨r,hr,rfl⟩:=A1k.1 hu;exact sn_lt (ok r hr)
 obtain⟨D,e1,e2,e3⟩:=duals (N:=2*n) _ hi hu;rw[A0c] at e1
 have key:∀j,j<=rs.length->Ind (rs.map (sn n)++(D.map (sw n)).take j):=by
  intro j
  induction j with
  | zero=>intro _;rw[List.take_zero,A3v];exact hi
  | succ j ih=>
   intro hj;have hjD:j<D.length:=by omega
   have hg:(D.map (sw n))[j]? = some (sw n D[j]):=by rw[List.getElem?_map,List.getElem?_eq_getElem hjD];rfl
   have hr:rs[j]? = some rs[j]:=List.getElem?_eq_getElem (by omega);rw[a1u hg,<- B0j];refine c6n (ih (by omega)) fun z=>?_;obtain⟨m,_,em⟩:=z;have okj:=ok rs[j] (A6m _)
   have hf:∀u∈rs.map (sn n)++(D.map (sw n)).take j,pb (sn n ⟨0,rs[j].z,rs[j].x⟩&&&u)=false:=fun u hu=>by
    rcases A1q.1 hu with hu|hu
    ·obtain⟨s,hs,rfl⟩:=A1k.1 hu;rw[symp_pb okj (ok s hs)];exact com _ (A6m _) s hs
    ·obtain⟨i,hi'⟩:=List.getElem?_of_mem hu;rw[List.getElem?_take] at hi'
     split at hi'
     ·rename_i hij;rw[List.getElem?_map] at hi'
      cases eD:D[i]? with
      | none=>rw[eD] at hi';cases hi'
      | some d=>
       rw[eD] at hi';obtain rfl:sw n d=u:=A0j hi';rw[pb_sw okj (e2 d (List.mem_of_getElem? eD)),A0v,e3 eD (by rw[List.getElem?_map,hr];rfl)];exact decide_eq_false (by omega)
     ·cases hi'
   have h1:=xsel_pb m hf;rw[em,pb_sw okj (e2 _ (A6m _)),A0v,e3 (List.getElem?_eq_getElem hjD) (by rw[List.getElem?_map,hr];rfl),decide_eq_true rfl] at h1;cases h1
 have h2:=ind_room (N:=2*n) (key rs.length (A0f _)) fun u hu'=>by
  rcases A1q.1 hu' with h|h
  ·exact hu u h
  ·obtain⟨d,hd,rfl⟩:=A1k.1 (A6b h);exact sw_lt (e2 d hd)
 rw[A0s,A0c,A0u,A0c,e1,Nat.min_self] at h2;omega
end Tw
namespace L2
open PySem PySem.Spec PyProof.Rows
section
variable {X:Cx}{k j:Nat}{ps:List Str}{sp:Sp}{x:Str}{C:Addr}{p pos:Pos}{e:Expr}{es:List Expr}{t:TA}
end
section
variable {X:Cx}{st b₀:Stmt}{suite:List Stmt}{W:Addr}{y:Str}{np hpos pos:Pos}{t:XK->TS}{ts:TS}
end
section
variable {X:Cx}{pos:Pos}
end
end L2
namespace Tw
open PySem L2
variable {rs:List Row}{o r:Row}
structure Kept (n:Nat)(rs:List Row):Prop where
 len:rs.length=n
 ok:∀r∈rs,r.Ok n
 com:∀r∈rs,∀s∈rs,a3d r s=false
 ind:Ind (rs.map (sn n))
theorem xsel_map {f:Nat->Nat}(h0:f 0=0)(hx:∀a b,f (a^^^b)=f a^^^f b):∀(l:List Nat) (m:Nat),a4f (l.map f) m=f (a4f l m)
 | [],m=>by show (0:Nat)=f 0;exact h0.symm
 | v::l,m=>by
  show (if m.testBit 0=true then f v else 0)^^^a4f (l.map f) (m/2)=f ((if m.testBit 0=true then v else 0)^^^a4f l (m/2));rw[hx,xsel_map h0 hx l]
  split
  ·rfl
  ·rw[h0]
theorem ind_map {N:Nat}{f:Nat->Nat}(h0:f 0=0)(hx:∀a b,f (a^^^b)=f a^^^f b)(hi:∀a b,a<2^N->b<2^N->f a=f b->a=b):∀{l:List Nat},(∀u∈l,u<2^N)->Ind l->Ind (l.map f)
 | [],_,_=>trivial
 | b::l,hl,⟨h1,h2⟩=>by
  refine⟨fun⟨m,hm,e⟩=>h1 ⟨m,by rw[A0c] at hm;exact hm,?_⟩,ind_map h0 hx hi (fun u hu=>hl u (A0d _ hu)) h2⟩;rw[xsel_map h0 hx] at e;exact hi _ _ (d5y m fun u hu=>hl u (A0d _ hu)) (hl b A0k) e
def rn (n u:Nat):Row:=⟨0,u%2^n,u/2^n⟩
theorem rn_xor (n a b:Nat):Add3 (rn n a) (rn n b) (rn n (a^^^b)):=⟨Nat.xor_mod_two_pow,by
 show (a^^^b)/2^n=a/2^n^^^b/2^n
 rw[<- A6h,<- A6h,<- A6h,Nat.shiftRight_xor_distrib]⟩
theorem sn_rn (n u:Nat):sn n (rn n u)=u:=(split_num n u).symm
theorem rn_sn {n:Nat}(ok:r.Ok n):(rn n (sn n r)).x=r.x/\(rn n (sn n r)).z=r.z:=by
 have h:(rn n (sn n r)).x<2^n:=A7p _ (A1m n);exact sn_inj h ok.x (sn_rn n (sn n r))
theorem rn_ok {n u:Nat}(h:u<2^(2*n)):(rn n u).Ok n:=⟨A1v _,A7p _ (A1m n),by
 show u/2^n<2^n;rw[A7x (A1m n),<- A7q]
 rw[show n+n=2*n by omega];exact h⟩
theorem sn_add3 {n:Nat}{s t:Row}(h:Add3 r s t):sn n t=sn n r^^^sn n s:=by
 unfold sn;rw[h.1,h.2,mul_xor,x4]
def aN (d:Dd)(n u:Nat):Nat:=sn n (d1h [d] (rn n u))
theorem Kept.act {n:Nat}{rs:List Row}(h:Kept n rs){d:Dd}(ok:d.Ok n):Kept n (rs.map (act d)):=by
 have hd:∀e∈[d],e.Ok n:=fun e he=>by rw[A0t.1 he];exact ok
 refine⟨by rw[A0c];exact h.len,fun r hr=>?_,fun r hr s hs=>?_,?_⟩
 ·obtain⟨u,hu,rfl⟩:=A1k.1 hr;exact act_ok (h.ok u hu) ok
 ·obtain⟨u,hu,rfl⟩:=A1k.1 hr;obtain⟨t,ht,rfl⟩:=A1k.1 hs;rw[act_symp ok];exact h.com u hu t ht
 ·have e:(rs.map (Tw.act d)).map (sn n)=(rs.map (sn n)).map (aN d n):=by
   rw[A3q,A3q];refine A8s fun r hr=>?_;show sn n (d1h [d] r)=sn n (d1h [d] (rn n (sn n r)));have a:=acts_let (ds:=[d]) (rn_sn (h.ok r hr)).1 (rn_sn (h.ok r hr)).2;generalize rn n (sn n r)=t at a ⊢;unfold sn;rw[a.1,a.2]
  rw[e];have hx:∀a b,aN d n (a^^^b)=aN d n a^^^aN d n b:=fun a b=>sn_add3 (c5m (ds:=[d]) (rn_xor n a b))
  have h0:aN d n 0=0:=by
   have:=hx 0 0;rw[A1g,A1g] at this;exact this
  refine ind_map (N:=2*n) h0 hx (fun a b ha hb e=>?_) (fun u hu=>?_) h.ind
  ·have ka:=acts_ok (ds:=[d]) (rn_ok ha) hd;have kb:=acts_ok (ds:=[d]) (rn_ok hb) hd;obtain⟨e1,e2⟩:=sn_inj ka.x kb.x e;have g:=acts_let (ds:=undo [d]) e1 e2;rw[d0k hd,d0k hd] at g;rw[<- sn_rn n a,<- sn_rn n b];unfold sn;rw[g.1,g.2]
  ·obtain⟨r,hr,rfl⟩:=A1k.1 hu;exact sn_lt (h.ok r hr)
theorem lsel_spn {n:Nat}(ok:∀r∈rs,r.Ok n)(oo:o.Ok n)(h:∀m,¬Lsel rs m o):¬Spn (rs.map (sn n)) (sn n o):=
 fun⟨m,_,e⟩=>h m ((d6k (w:=n) (fun s hs=>(ok s hs).x) oo.x m).1 e)
theorem Kept.full {n:Nat}(h:Kept n rs)(oo:o.Ok n)(hn:¬Spn (rs.map (sn n)) (sn n o)):∃r∈rs,a3d r o=true:=by
 apply A9x;intro hc
 have hb:∀r∈rs,a3d r o=false:=fun r hr=>by
  cases e:a3d r o with
  | false=>rfl
  | true=>exact(hc ⟨r,hr,e⟩).elim
 have hs:a3d o o=false:=by
  unfold a3d;rw[A0v o.z,Bool.xor_self]
 have:=iso (rs:=rs++[o]) (n:=n) (fun r hr=>?_) (fun r hr s hs'=>?_) (by rw[A1b];exact c6n h.ind hn)
 ·rw[A0s,h.len] at this;exact absurd this (by show ¬(n+1<=n);omega)
 ·rcases A1q.1 hr with hr|hr
  ·exact h.ok r hr
  ·rw[A0t.1 hr];exact oo
 ·rcases A1q.1 hr with hr|hr<;>rcases A1q.1 hs' with hs'|hs'
  ·exact h.com r hr s hs'
  ·rw[A0t.1 hs'];exact hb r hr
  ·rw[A0t.1 hr,b4x];exact hb s hs'
  ·rw[A0t.1 hr,A0t.1 hs'];exact hs
theorem mend {c:Nat}:∀(cs st:List Nat),Ind (c::(cs++st))->Ind (c::(cs.map (c ^^^ ·)++st))/\∀v,Spn (c::(cs.map (c ^^^ ·)++st)) v->Spn (c::(cs++st)) v
 | [],st,h=>⟨h,fun _ z=>z⟩
 | d::cs,st,h=>by
  have p1:(c::(d::cs++st)).Perm (d::c::(cs++st)):=.swap _ _ _;have h1:=ind_sum (b6v p1 h)
  have p2:((d^^^c)::c::(cs++st)).Perm (c::(cs++((c^^^d)::st))):=by
   rw[A4m d c];exact(List.Perm.swap _ _ _).trans (.cons _ (List.perm_middle.symm))
  obtain⟨a,b⟩:=mend cs ((c^^^d)::st) (b6v p2 h1);have p3:(c::(cs.map (c ^^^ ·)++((c^^^d)::st))).Perm (c::((d::cs).map (c ^^^ ·)++st)):=.cons _ List.perm_middle
  refine⟨b6v p3 a,fun v z=>?_⟩;have z1:=b v ((c1h p3 v).2 z);have z2:=(c1h p2 v).2 z1;exact(c1h p1 v).2 ((sp_sum _ _ _ _).1 z2)
theorem Kept.settle {n:Nat}(h:Kept n rs)(oo:o.Ok n)(hn:¬Spn (rs.map (sn n)) (sn n o)){c:Row}{cs:List Row}
  (hc:rs.filter (fun r=>a3d r o)=c::cs) {v:Nat} (hv:v<=1):Kept n (rs.filter (fun r=>!a3d r o)++cs.map (tm c)++[⟨v,o.x,o.z⟩]):=by
 have P:(rs.filter (fun r=>a3d r o)++rs.filter (fun r=>!a3d r o)).Perm rs:=List.filter_append_perm _ _;rw[hc] at P;generalize hst:rs.filter (fun r=>!a3d r o)=st at P ⊢
 have mst:∀r∈st,r∈rs/\a3d r o=false:=fun r hr=>by
  rw[<- hst,A4z] at hr;exact⟨hr.1,by simpa using hr.2⟩
 have mcs:∀r∈c::cs,r∈rs/\a3d r o=true:=fun r hr=>by
  rw[<- hc,A4z] at hr;exact hr
 have cc:=mcs c A0k;have mc:∀r∈cs,r∈rs/\a3d r o=true:=fun r hr=>mcs r (A0d _ hr);have hlen:=P.length_eq;have I0:=b6v (P.symm.map (sn n)) h.ind;have e0:(c::cs++st).map (sn n)=sn n c::(cs.map (sn n)++st.map (sn n)):=by simp
 rw[e0] at I0;obtain⟨I1,I2⟩:=mend _ _ I0
 have e1:(cs.map (sn n)).map (sn n c ^^^ ·)=(cs.map (tm c)).map (sn n):=by
  rw[A3q,A3q];exact A8s fun r _=>(sn_add3 (d2w c r)).symm
 rw[e1] at I1 I2
 have sb:∀r s,r∈rs->s∈rs->a3d (tm c r) s=false:=fun r s hr hs=>by
  rw[b9d (d2w c r),h.com _ cc.1 s hs,h.com r hr s hs];rfl
 have so:∀r∈cs,a3d (tm c r) o=false:=fun r hr=>by
  rw[b9d (d2w c r),cc.2,(mc r hr).2];rfl
 have oself:a3d o o=false:=by
  unfold a3d;rw[A0v o.z,Bool.xor_self]
 have om:∀r:Row,a3d r (⟨v,o.x,o.z⟩:Row)=a3d r o:=fun _=>rfl;have mo:∀r:Row,a3d (⟨v,o.x,o.z⟩:Row) r=a3d o r:=fun _=>rfl
 have allb:∀r∈st++cs.map (tm c),a3d r o=false/\∀s∈rs,a3d r s=false:=fun r hr=>by
  rcases A1q.1 hr with hr|hr
  ·exact⟨(mst r hr).2,fun s hs=>h.com r (mst r hr).1 s hs⟩
  ·obtain⟨u,hu,rfl⟩:=A1k.1 hr;exact⟨so u hu,fun s hs=>sb u s (mc u hu).1 hs⟩
 have com1:∀r∈st++cs.map (tm c),∀s∈st++cs.map (tm c),a3d r s=false:=fun r hr s hs=>by
  rcases A1q.1 hs with hs|hs
  ·exact(allb r hr).2 s (mst s hs).1
  ·obtain⟨u,hu,rfl⟩:=A1k.1 hs;rw[b4x,b9d (d2w c u),b4x c,b4x u,(allb r hr).2 c cc.1,(allb r hr).2 u (mc u hu).1];rfl
 refine⟨?_,fun r hr=>?_,fun r hr s hs=>?_,?_⟩
 ·rw[<- h.len,<- hlen];simp only[A0s,A0c,A1a,A4v];omega
 ·rcases A1q.1 hr with hr|hr
  ·rcases A1q.1 hr with hr|hr
   ·exact h.ok r (mst r hr).1
   ·obtain⟨u,hu,rfl⟩:=A1k.1 hr;exact⟨tm_le _ _,A0z (h.ok c cc.1).x (h.ok u (mc u hu).1).x,A0z (h.ok c cc.1).z (h.ok u (mc u hu).1).z⟩
  ·rw[A0t.1 hr];exact⟨hv,oo.x,oo.z⟩
 ·rcases A1q.1 hr with hr|hr<;>rcases A1q.1 hs with hs|hs
  ·exact com1 r hr s hs
  ·rw[A0t.1 hs,om];exact(allb r hr).1
  ·rw[A0t.1 hr,mo,b4x];exact(allb s hs).1
  ·rw[A0t.1 hr,A0t.1 hs,mo,om];exact oself
 ·rw[A1b]
  have p4:((cs.map (tm c)).map (sn n)++st.map (sn n)).Perm ((st++cs.map (tm c)).map (sn n)):=by
   rw[A1b];exact B1t
  refine c6n (b6v p4 I1.2) fun z=>hn ?_;have z1:Spn (sn n c::((cs.map (tm c)).map (sn n)++st.map (sn n))) (sn n o):=(a3g _ _ _).2 (.inl ((c1h p4 _).2 z));have z2:=I2 _ z1;rw[<- e0] at z2;exact(c1h (P.map (sn n)) _).1 z2
end Tw
namespace L2
open PySem
section
variable {X:Cx}{CX:CXT}{j k:Nat}{ps:List Str}{sp:Sp}{E:XK}{x:Str}{p pos:Pos}{e:Expr}{es:List Expr}{t:TA}
end
end L2
set_option maxHeartbeats 4000000
namespace Tw
open PySem L2
variable {k:DK}{d:Dd}{p:Int×Int}{A B N b c i j:Nat}{e:Nat×Int×Int}{r:Row}{ws:Wh}
theorem wput_len (ws:Wh)(b:Nat)(p:Int×Int):(wput ws b p).length<=ws.length+1:=by
 unfold wput
 split<;>simp
theorem deedF_step (h:ws[i]? = some e):a6k d (ws.take (i+1))=c2x (a6k d (ws.take i)) (a6c d.k (d.w.getD 0 0) (d.w.getD 1 0) e):=by
 unfold a6k;rw[a1u h,A4y];rfl
theorem c5t:∀(es ws:Wh),(c2x ws es).length<=ws.length+es.length
 | [],ws=>by simp[c2x]
 | e::es,ws=>by
  have h:=c5t es (wadd ws e.1 e.2);have h2:=wput_len ws e.1 (((wat ws e.1).getD (0,0)).1+e.2.1,((wat ws e.1).getD (0,0)).2+e.2.2);show (c2x (wadd ws e.1 e.2) es).length<=_;unfold wadd at h ⊢;simp only[A1a];omega
theorem deedW_len (k:DK)(i j:Nat)(e:Nat×Int×Int):(a6c k i j e).length<=2:=by cases k<;>simp[a6c]
def wnz (ws:Wh):Wh:=ws.filter fun e=>decide (e.2≠(0,0))
theorem xor_two (b x:Nat):b^^^x^^^x=b:=by rw[A0q,A1g,A1c]
theorem ex_two (hij:i≠j)(b:Nat):ex (ex b i j) i j=b:=by
 have hji:j≠i:=A1e hij
 have e:((ex b i j).testBit i ^^ (ex b i j).testBit j)=(b.testBit i ^^ b.testBit j):=by
  unfold ex;simp only[A0e,a3z,hij,hji,decide_true,decide_false,A2d,A2x,A2u];cases b.testBit i<;>cases b.testBit j<;>rfl
 show ex b i j^^^((ex b i j).testBit i ^^ (ex b i j).testBit j).toNat*2^i^^^((ex b i j).testBit i ^^ (ex b i j).testBit j).toNat*2^j=b;rw[e];unfold ex;generalize (b.testBit i ^^ b.testBit j).toNat*2^i=u;generalize (b.testBit i ^^ b.testBit j).toNat*2^j=v;apply A0p;intro q;simp only[A0e];cases b.testBit q<;>cases u.testBit q<;>cases v.testBit q<;>rfl
theorem down_clr (b i:Nat):(b|||2^i)^^^2^i=clr b i:=by
 apply A0p;intro q;rw[A0e,A4c,b4v,A2j]
 by_cases h:i=q
 ·subst h;simp
 ·simp[h]
theorem c6s (b i:Nat):clr b i+2^i=b|||2^i:=by
 have h:=d4f (a:=clr b i) (i:=i) (b:=true) (by rw[b4v];simp);rw[A4x,A8t] at h;rw[h,<- down_clr,xor_two]
theorem deedF_len (d:Dd)(ws:Wh):(a6k d ws).length<=2*ws.length:=by
 have key:∀(es acc:Wh),(es.foldl (fun acc e=>c2x acc (a6c d.k (d.w.getD 0 0) (d.w.getD 1 0) e)) acc).length<=acc.length+2*es.length:=by
  intro es
  induction es with
  | nil=>intro acc;simp
  | cons e es ih=>
   intro acc;have h1:=ih (c2x acc (a6c d.k (d.w.getD 0 0) (d.w.getD 1 0) e));have h2:=c5t (a6c d.k (d.w.getD 0 0) (d.w.getD 1 0) e) acc;have h3:=deedW_len d.k (d.w.getD 0 0) (d.w.getD 1 0) e;rw[A7c,A1a];omega
 have:=key ws [];rw[A4v] at this;unfold a6k;omega
theorem wadd_nd (h:(ws.map (·.1)).Nodup):((wadd ws b p).map (·.1)).Nodup:=by
 unfold wadd;rw[wput_keys]
 split
 ·exact h
 ·rename_i hn;refine List.nodup_append.mpr ⟨h,by simp,fun x hx y hy z=>hn ?_⟩;rw[List.mem_singleton.mp hy] at z;obtain⟨e,he,rfl⟩:=List.mem_map.mp hx;rw[List.any_eq_true];exact⟨e,he,by simpa using z⟩
theorem d4z (d:Dd)(ws:Wh):((a6k d ws).map (·.1)).Nodup:=by
 have ad:∀(es acc:Wh),(acc.map (·.1)).Nodup->((c2x acc es).map (·.1)).Nodup:=by
  intro es
  induction es with
  | nil=>intro acc h;exact h
  | cons e es ih=>intro acc h;exact ih _ (wadd_nd h)
 have key:∀(es acc:Wh),(acc.map (·.1)).Nodup->((es.foldl (fun acc e=>c2x acc (a6c d.k (d.w.getD 0 0) (d.w.getD 1 0) e)) acc).map (·.1)).Nodup:=by
  intro es
  induction es with
  | nil=>intro acc h;exact h
  | cons e es ih=>intro acc h;exact ih _ (ad _ _ h)
 exact key ws [] (by simp)
theorem wnz_nd (h:(ws.map (·.1)).Nodup):((wnz ws).map (·.1)).Nodup:=h.sublist (List.Sublist.map _ List.filter_sublist)
structure Wn (n:Nat)(ws:Wh):Prop where
 nd:(ws.map (·.1)).Nodup
 nz:∀e∈ws,e.2≠(0,0)
 lt:∀e∈ws,e.1<2^n
theorem nodup_below:∀(N:Nat) (l:List Nat),l.Nodup->(∀x∈l,x<N)->l.length<=N:=by
 intro N
 induction N with
 | zero=>
  intro l _ h
  cases l with
  | nil=>exact A0f _
  | cons x l=>exact absurd (h x (by simp)) (by omega)
 | succ N ih=>
  intro l nd h
  have h1:=ih (l.erase N) (nd.erase _) fun x hx=>by
   have hm:=(List.Nodup.mem_erase_iff nd).mp hx;have:=h x hm.2;have:=hm.1;omega
  have h2:l.length<=(l.erase N).length+1:=by
   rw[List.length_erase]
   split<;>omega
  omega
theorem Wn.len {n:Nat}(h:Wn n ws)(hn:n<=6):ws.length<=64:=by
 have h1:=nodup_below (2^n) (ws.map (·.1)) h.nd fun x hx=>by
  obtain⟨e,he,rfl⟩:=List.mem_map.mp hx;exact h.lt e he
 rw[A0c] at h1;exact A0y h1 (A0w (by decide) hn)
theorem ln1 {α:Type}{l:List α}(h:l.length=1):∃x,l=[x]:=List.length_eq_one_iff.mp h
theorem ln2 {α:Type}{l:List α}(h:l.length=2):∃x y,l=[x,y]:=by
 match l,h with
 | [x,y],_=>exact⟨x,y,rfl⟩
theorem wput_lt (h:∀e∈ws,e.1<N)(hb:b<N):∀e∈wput ws b p,e.1<N:=by
 intro e he;have hm:e.1∈(wput ws b p).map (·.1):=List.mem_map.mpr ⟨e,he,rfl⟩
 rw[wput_keys] at hm
 split at hm
 ·obtain⟨x,hx,ex⟩:=List.mem_map.mp hm;rw[<- ex];exact h x hx
 ·rcases List.mem_append.mp hm with hm|hm
  ·obtain⟨x,hx,ex⟩:=List.mem_map.mp hm;rw[<- ex];exact h x hx
  ·rw[List.mem_singleton.mp hm];exact hb
theorem adds_lt :∀(es:Wh) {acc:Wh},(∀e∈acc,e.1<N)->(∀e∈es,e.1<N)->∀e∈c2x acc es,e.1<N:=by
 intro es
 induction es with
 | nil=>intro acc h _;exact h
 | cons x es ih=>intro acc h h2;exact ih (wput_lt h (h2 x (by simp))) fun e he=>h2 e (A0d _ he)
theorem deedW_lt {n:Nat}(ok:d.Ok n)(h:e.1<2^n):∀x∈a6c d.k (d.w.getD 0 0) (d.w.getD 1 0) e,x.1<2^n:=by
 obtain⟨k,wl⟩:=d;have hlen:=ok.len;have hlt:=ok.lt;have hnd:=ok.nd;have p2:∀i,i<n->2^i<2^n:=fun i hi=>A1r (by decide) hi;intro x hx
 cases k with
 | over=>
  obtain⟨i,rfl⟩:∃i,wl=[i]:=ln1 hlen;rw[List.mem_singleton.mp hx];exact A0z h (p2 i (hlt i (by simp)))
 | quarter=>rw[List.mem_singleton.mp hx];exact h
 | back=>rw[List.mem_singleton.mp hx];exact h
 | both=>
  obtain⟨i,rfl⟩:∃i,wl=[i]:=ln1 hlen;have hc:clr e.1 i<=e.1:=Nat.sub_le _ _
  rcases List.mem_cons.mp hx with rfl|hx
  ·exact A2n hc h
  ·rw[List.mem_singleton.mp hx];show clr e.1 i+2^i<2^n;rw[c6s];exact Nat.or_lt_two_pow h (p2 i (hlt i (by simp)))
 | wher=>
  obtain⟨i,j,rfl⟩:∃i j,wl=[i,j]:=ln2 hlen;rw[List.mem_singleton.mp hx];exact A0z h (b2n (hlt j (by simp)))
 | swap=>
  obtain⟨i,j,rfl⟩:∃i j,wl=[i,j]:=ln2 hlen;have hij:i≠j:=by simp at hnd;exact hnd
  rw[List.mem_singleton.mp hx];show clr (clr e.1 i) j+(e.1.testBit j).toNat*2^i+(e.1.testBit i).toNat*2^j<2^n;rw[c5w hij];unfold ex;exact A0z (A0z h (b2n (hlt i (by simp)))) (b2n (hlt j (by simp)))
theorem deedF_lt {n:Nat}(ok:d.Ok n)(h:∀e∈ws,e.1<2^n):∀e∈a6k d ws,e.1<2^n:=by
 have key:∀(es acc:Wh),(∀e∈es,e.1<2^n)->(∀e∈acc,e.1<2^n)->∀e∈es.foldl (fun acc e=>c2x acc (a6c d.k (d.w.getD 0 0) (d.w.getD 1 0) e)) acc,e.1<2^n:=by
  intro es
  induction es with
  | nil=>intro acc _ h;exact h
  | cons x es ih=>intro acc h1 h2;exact ih _ (fun e he=>h1 e (A0d _ he)) (adds_lt _ h2 (deedW_lt ok (h1 x (by simp))))
 exact key ws [] h (fun e he=>by cases he)
theorem Wn.deed {n:Nat}(h:Wn n ws)(ok:d.Ok n):Wn n (wnz (a6k d ws)) where
 nd:=wnz_nd (d4z d ws)
 nz:=fun e he=>by
  unfold wnz at he;exact of_decide_eq_true (List.mem_filter.mp he).2
 lt:=fun e he=>by
  unfold wnz at he;exact deedF_lt ok h.lt e (List.mem_filter.mp he).1
def pad (p q:Int×Int):Int×Int:=(p.1+q.1,p.2+q.2)
theorem pad_z (p:Int×Int):pad p (0,0)=p:=by unfold pad;simp
theorem z_pad (p:Int×Int):pad (0,0) p=p:=by unfold pad;simp
theorem c7y (p q r:Int×Int):pad (pad p q) r=pad p (pad q r):=by unfold pad;simp[B2z]
theorem d5z (p q:Int×Int):pad p q=pad q p:=by unfold pad;simp[B3r]
theorem pad_four (p q r s:Int×Int):pad (pad p q) (pad r s)=pad (pad p r) (pad q s):=by
 unfold pad;refine A5t ?_ ?_<;>first|omega|(dsimp only;omega)|(dsimp only)
theorem b3p (o:Nat)(p q:Int×Int):a2q o (pad p q)=pad (a2q o p) (a2q o q):=by
 unfold a2q pad
 split
 ·rfl
 ·split
  ·refine A5t ?_ ?_<;>first|omega|(dsimp only;omega)|(dsimp only)
  ·split
   ·refine A5t ?_ ?_<;>first|omega|(dsimp only;omega)|(dsimp only)
   ·refine A5t ?_ ?_<;>first|omega|(dsimp only;omega)|(dsimp only)
theorem b5e (o:Nat):a2q o (0,0)=(0,0):=by
 unfold a2q;simp
def sm:Wh->Nat->Int×Int
 | [],_=>(0,0)
 | e::ws,c=>pad (if e.1=c then e.2 else (0,0)) (sm ws c)
theorem sm_app (xs ys:Wh)(c:Nat):sm (xs++ys) c=pad (sm xs c) (sm ys c):=by
 induction xs with
 | nil=>rw[A6z];exact(z_pad _).symm
 | cons e xs ih=>show pad _ (sm (xs++ys) c)=pad (pad _ _) _;rw[ih,c7y]
theorem sm_none (h:∀e∈ws,e.1≠c):sm ws c=(0,0):=by
 induction ws with
 | nil=>rfl
 | cons e ws ih=>
  show pad _ (sm ws c)=_;rw[if_neg (h e (by simp)),z_pad];exact ih fun x hx=>h x (A0d _ hx)
theorem wv_nil (c:Nat):wv [] c=(0,0):=rfl
theorem c8u (b:Nat)(p:Int×Int)(ws:Wh)(c:Nat):wv ((b,p)::ws) c=if b=c then p else wv ws c:=by
 unfold wv
 by_cases e:b=c
 ·subst e;rw[b7b,if_pos rfl];rfl
 ·rw[a9q e,if_neg e]
theorem wv_sm (nd:(ws.map (·.1)).Nodup)(c:Nat):wv ws c=sm ws c:=by
 induction ws with
 | nil=>rfl
 | cons e ws ih=>
  obtain⟨b,p⟩:=e;rw[A0m,A3e] at nd;rw[c8u];show _=pad (if b=c then p else (0,0)) (sm ws c)
  by_cases h:b=c
  ·subst h;rw[if_pos rfl,if_pos rfl,sm_none,pad_z];intro e he z;exact nd.1 (List.mem_map.mpr ⟨e,he,z⟩)
  ·rw[if_neg h,if_neg h,z_pad,ih nd.2]
theorem wat_app (ws:Wh)(b:Nat)(p:Int×Int)(c:Nat):wat (ws++[(b,p)]) c=(wat ws c).or (if b=c then some p else none):=by
 induction ws with
 | nil=>
  rw[A6z]
  by_cases h:b=c
  ·subst h;rw[b7b,if_pos rfl];rfl
  ·rw[a9q h,if_neg h];rfl
 | cons e ws ih=>
  obtain⟨a,q⟩:=e;rw[List.cons_append]
  by_cases h:a=c
  ·subst h;rw[b7b,b7b];rfl
  ·rw[a9q h,a9q h,ih]
theorem wat_repl (ws:Wh)(b:Nat)(p:Int×Int)(c:Nat):wat (ws.map fun e=>if e.1=b then (e.1,p) else e) c=if b=c then (wat ws c).map fun _=>p else wat ws c:=by
 induction ws with
 | nil=>
  split<;>rfl
 | cons e ws ih=>
  obtain⟨a,q⟩:=e;rw[A0m]
  by_cases h:a=c
  ·subst h
   by_cases h2:a=b
   ·subst h2;rw[if_pos rfl,b7b,if_pos rfl,b7b];rfl
   ·rw[if_neg h2,b7b,if_neg (A1e h2),b7b]
  ·have e1:wat ((if (a,q).1=b then ((a,q).1,p) else (a,q))::ws.map fun e=>if e.1=b then (e.1,p) else e) c=wat (ws.map fun e=>if e.1=b then (e.1,p) else e) c:=by
    by_cases h2:a=b
    ·rw[if_pos h2];exact a9q h
    ·rw[if_neg h2];exact a9q h
   rw[e1,ih,a9q h]
theorem wat_any (h:ws.any (fun e=>decide (e.1=b))=true):(wat ws b).isSome=true:=by
 obtain⟨e,he,z⟩:=List.any_eq_true.mp h;exact d6m (List.mem_map.mpr ⟨e,he,of_decide_eq_true z⟩)
theorem wat_not (h:¬ws.any (fun e=>decide (e.1=b))=true):wat ws b=none:=by
 unfold wat;rw[List.find?_eq_none.mpr]
 ·rfl
 ·intro e he z;exact h (List.any_eq_true.mpr ⟨e,he,z⟩)
theorem wat_wput (ws:Wh)(b:Nat)(p:Int×Int)(c:Nat):wat (wput ws b p) c=if b=c then some p else wat ws c:=by
 unfold wput
 split
 ·rename_i h;rw[wat_repl]
  by_cases e:b=c
  ·subst e;rw[if_pos rfl,if_pos rfl];have:=wat_any h
   cases hw:wat ws b with
   | none=>rw[hw] at this;cases this
   | some q=>rfl
  ·rw[if_neg e,if_neg e]
 ·rename_i h;rw[wat_app]
  by_cases e:b=c
  ·subst e;rw[if_pos rfl,if_pos rfl,wat_not h];rfl
  ·rw[if_neg e,if_neg e,Option.or_none]
theorem wv_wput (ws:Wh)(b:Nat)(p:Int×Int)(c:Nat):wv (wput ws b p) c=if b=c then p else wv ws c:=by
 unfold wv;rw[wat_wput]
 split<;>rfl
theorem wv_wadd (ws:Wh)(b:Nat)(p:Int×Int)(c:Nat):wv (wadd ws b p) c=pad (wv ws c) (if b=c then p else (0,0)):=by
 unfold wadd;rw[wv_wput]
 by_cases e:b=c
 ·subst e;rw[if_pos rfl,if_pos rfl];rfl
 ·rw[if_neg e,if_neg e,pad_z]
theorem wv_adds (es:Wh)(c:Nat):∀ws:Wh,wv (c2x ws es) c=pad (wv ws c) (sm es c):=by
 induction es with
 | nil=>intro ws;exact(pad_z _).symm
 | cons e es ih=>
  intro ws;show wv (c2x (wadd ws e.1 e.2) es) c=pad _ (pad _ _);rw[ih,wv_wadd,c7y]
theorem wv_deedF (d:Dd)(ws:Wh)(c:Nat):wv (a6k d ws) c=sm (ws.flatMap (a6c d.k (d.w.getD 0 0) (d.w.getD 1 0))) c:=by
 have key:∀(es acc:Wh),wv (es.foldl (fun acc e=>c2x acc (a6c d.k (d.w.getD 0 0) (d.w.getD 1 0) e)) acc) c=pad (wv acc c) (sm (es.flatMap (a6c d.k (d.w.getD 0 0) (d.w.getD 1 0))) c):=by
  intro es
  induction es with
  | nil=>intro acc;exact(pad_z _).symm
  | cons e es ih=>
   intro acc;rw[A7c,ih,wv_adds,A7r,sm_app,c7y]
 rw[show a6k d ws=ws.foldl (fun acc e=>c2x acc (a6c d.k (d.w.getD 0 0) (d.w.getD 1 0) e)) [] from rfl,key,wv_nil,z_pad]
def dF (k:DK)(i j:Nat)(f:Nat->Int×Int)(c:Nat):Int×Int:=
 match k with
 | .over=>f (c^^^2^i)
 | .quarter=>a2q (c.testBit i).toNat (f c)
 | .back=>a2q (3*(c.testBit i).toNat) (f c)
 | .both=>pad (a2q (2*(c.testBit i).toNat) (f c)) (f (c^^^2^i))
 | .wher=>f (c^^^(c.testBit i).toNat*2^j)
 | .swap=>f (ex c i j)
theorem dF_pad (k:DK)(i j:Nat)(f g:Nat->Int×Int)(c:Nat):dF k i j (fun b=>pad (f b) (g b)) c=pad (dF k i j f c) (dF k i j g c):=by
 cases k with
 | over=>rfl
 | quarter=>exact b3p _ _ _
 | back=>exact b3p _ _ _
 | both=>
  show pad (a2q _ (pad _ _)) (pad _ _)=pad (pad _ _) (pad _ _);rw[b3p,pad_four]
 | wher=>rfl
 | swap=>rfl
theorem dF_z (k:DK)(i j:Nat)(c:Nat):dF k i j (fun _=>(0,0)) c=(0,0):=by
 cases k with
 | over=>rfl
 | quarter=>exact b5e _
 | back=>exact b5e _
 | both=>show pad (a2q _ (0,0)) (0,0)=_;rw[b5e];rfl
 | wher=>rfl
 | swap=>rfl
theorem a4w (b t:Nat):b^^^t^^^t=b:=by rw[A0q,A1g,A1c]
theorem a9j {t:Nat}:b^^^t=c ↔ b=c^^^t:=by
 constructor
 ·rintro rfl;exact(a4w b t).symm
 ·rintro rfl;exact a4w c t
theorem flip_tb (b i:Nat):(b^^^2^i).testBit i= !b.testBit i:=by
 rw[A0e,A3x];simp
theorem c8s (hij:i≠j)(o:Nat)(h:o<=1):(b^^^o*2^j).testBit i=b.testBit i:=by
 rw[A0e]
 have:(o*2^j).testBit i=false:=by
  match o,h with
  | 0,_=>simp
  | 1,_=>rw[A8t,A2j];exact decide_eq_false (A1e hij)
 rw[this,A2u]
theorem dF_one (hij:k.n=2->i≠j)(b:Nat)(p:Int×Int)(c:Nat):dF k i j (fun x=>if b=x then p else (0,0)) c=sm (a6c k i j (b,p)) c:=by
 have s1:∀(b':Nat) (p':Int×Int),sm [(b',p')] c=if b'=c then p' else (0,0):=fun b' p'=>pad_z _
 have tif:∀(o:Nat) (q:Prop) [Decidable q],a2q o (if q then p else (0,0))=if q then a2q o p else (0,0):=fun o q _=>by
  split
  ·rfl
  ·exact b5e o
 cases k with
 | over=>
  show (if b=c^^^2^i then p else (0,0))=sm [(b^^^2^i,p)] c;rw[s1];simp only[a9j]
 | quarter=>
  show a2q (c.testBit i).toNat (if b=c then p else (0,0))=sm [(b,a2q (b.testBit i).toNat p)] c;rw[s1,tif]
  by_cases h:b=c
  ·subst h;rfl
  ·rw[if_neg h,if_neg h]
 | back=>
  show a2q (3*(c.testBit i).toNat) (if b=c then p else (0,0))=sm [(b,a2q (3*(b.testBit i).toNat) p)] c;rw[s1,tif]
  by_cases h:b=c
  ·subst h;rfl
  ·rw[if_neg h,if_neg h]
 | both=>
  show pad (a2q (2*(c.testBit i).toNat) (if b=c then p else (0,0))) (if b=c^^^2^i then p else (0,0))=pad (if clr b i=c then p else (0,0)) (sm [(clr b i+2^i,a2q (2*(b.testBit i).toNat) p)] c);rw[s1,tif]
  cases hb:b.testBit i with
  | false=>
   have e1:clr b i=b:=by rw[clr_xor,hb];simp
   have e2:clr b i+2^i=b^^^2^i:=by
    rw[c6s];apply A0p;intro q;rw[A4c,A0e,A2j]
    by_cases h:i=q
    ·subst h;simp[hb]
    ·simp[h]
   rw[e2,e1]
   have e3:(if b=c then a2q (2*(c.testBit i).toNat) p else (0,0))=if b=c then p else (0,0):=by
    by_cases h:b=c
    ·subst h;rw[if_pos rfl,if_pos rfl,hb];rfl
    ·rw[if_neg h,if_neg h]
   rw[e3];simp only[a9j];rfl
  | true=>
   have e1:clr b i=b^^^2^i:=by rw[clr_xor,hb];simp
   have e2:clr b i+2^i=b:=by
    rw[c6s];apply A0p;intro q;rw[A4c,A2j]
    by_cases h:i=q
    ·subst h;simp[hb]
    ·simp[h]
   rw[e2,e1,d5z];simp only[a9j]
   congr 1
   by_cases h:b=c
   ·subst h;rw[if_pos rfl,if_pos rfl,hb]
   ·rw[if_neg h,if_neg h]
 | wher=>
  have h:=hij rfl;show (if b=c^^^(c.testBit i).toNat*2^j then p else (0,0))=sm [(b^^^(b.testBit i).toNat*2^j,p)] c;rw[s1]
  have e:(b^^^(b.testBit i).toNat*2^j=c) ↔ (b=c^^^(c.testBit i).toNat*2^j):=by
   constructor
   ·rintro rfl;rw[c8s h _ (B0v _),a4w]
   ·rintro rfl;rw[c8s h _ (B0v _),a4w]
  simp only[e]
 | swap=>
  have h:=hij rfl;show (if b=ex c i j then p else (0,0))=sm [(clr (clr b i) j+(b.testBit j).toNat*2^i+(b.testBit i).toNat*2^j,p)] c;rw[s1,c5w h]
  have e:(ex b i j=c) ↔ (b=ex c i j):=by
   constructor
   ·rintro rfl;exact(ex_two h b).symm
   ·rintro rfl;exact ex_two h c
  simp only[e]
theorem dF_congr {f g:Nat->Int×Int}(h:∀b,f b=g b)(c:Nat):dF k i j f c=dF k i j g c:=by rw[funext h]
theorem sm_dF (hij:k.n=2->i≠j)(ws:Wh)(c:Nat):sm (ws.flatMap (a6c k i j)) c=dF k i j (sm ws) c:=by
 induction ws with
 | nil=>exact(dF_z _ _ _ _).symm
 | cons e ws ih=>
  obtain⟨b,p⟩:=e;rw[A7r,sm_app,ih];show _=dF k i j (fun x=>pad (if b=x then p else (0,0)) (sm ws x)) c;rw[dF_pad,dF_one hij]
abbrev dfd (d:Dd)(f:Nat->Int×Int):Nat->Int×Int:=dF d.k (d.w.getD 0 0) (d.w.getD 1 0) f
theorem deedF_wv {n:Nat}(ok:d.Ok n)(nd:(ws.map (·.1)).Nodup):wv (a6k d ws)=dfd d (wv ws):=by
 funext c
 rw[wv_deedF,sm_dF fun h=>(ok.one.2.1 h).2];exact dF_congr (fun b=>(wv_sm nd b).symm) c
theorem wnz_wv (nd:(ws.map (·.1)).Nodup):wv (wnz ws)=wv ws:=by
 funext c
 rw[wv_sm (wnz_nd nd),wv_sm nd];unfold wnz;clear nd
 induction ws with
 | nil=>rfl
 | cons e ws ih=>
  by_cases h:e.2=(0,0)
  ·rw[List.filter_cons_of_neg (by simpa using h),ih];show _=pad (if e.1=c then e.2 else (0,0)) _;rw[h,ite_self,z_pad]
  ·rw[List.filter_cons_of_pos (by simpa using h)];show pad _ _=pad _ _;rw[ih]
def rF (r:Row)(n:Nat)(f:Nat->Int×Int)(c:Nat):Int×Int:=a2q (qq r (c^^^r.x) n) (f (c^^^r.x))
theorem sm_rowE (r:Row)(n:Nat)(ws:Wh)(c:Nat):sm (ws.map (rowE r n)) c=rF r n (sm ws) c:=by
 induction ws with
 | nil=>exact(b5e _).symm
 | cons e ws ih=>
  obtain⟨b,p⟩:=e;rw[A0m];show pad (if b^^^r.x=c then a2q (qq r b n) p else (0,0)) (sm (ws.map (rowE r n)) c)=a2q (qq r (c^^^r.x) n) (pad (if b=c^^^r.x then p else (0,0)) (sm ws (c^^^r.x)));rw[ih,b3p];refine congrArg (fun z=>pad z _) ?_
  by_cases h:b^^^r.x=c
  ·rw[if_pos h,if_pos (a9j.mp h),<- a9j.mp h]
  ·rw[if_neg h,if_neg fun z=>h (a9j.mpr z),b5e]
theorem sm_rev (ws:Wh)(c:Nat):sm ws.reverse c=sm ws c:=by
 induction ws with
 | nil=>rfl
 | cons e ws ih=>
  rw[A5z,sm_app,ih,d5z];show pad (pad _ (0,0)) _=pad _ _;rw[pad_z]
theorem dF_rF {n:Nat}(ok:r.Ok n)(hd:d.Ok n)(ws:Wh):dfd d (rF r n (sm ws))=rF (act d r) n (dfd d (sm ws)):=by
 funext c
 have hij:d.k.n=2->d.w.getD 0 0≠d.w.getD 1 0:=fun h=>(hd.one.2.1 h).2
 have e1:dfd d (rF r n (sm ws)) c=sm ((ws.map (rowE r n)).flatMap (a6c d.k (d.w.getD 0 0) (d.w.getD 1 0))) c:=by
  rw[sm_dF hij];exact dF_congr (fun b=>(sm_rowE r n ws b).symm) c
 have e2:rF (act d r) n (dfd d (sm ws)) c=sm ((ws.flatMap (a6c d.k (d.w.getD 0 0) (d.w.getD 1 0))).map (rowE (act d r) n)) c:=by
  rw[sm_rowE];unfold rF;rw[sm_dF hij]
 rw[e1,e2];clear e1 e2
 induction ws with
 | nil=>rfl
 | cons e ws ih=>
  obtain⟨b,p⟩:=e;rw[A0m,A7r,A7r,A1b,sm_app,sm_app,ih];refine congrArg (fun z=>pad z _) ?_
  rcases core (b:=b) (k:=d.k) ok hd.one.1 hd.one.2.1 p with h|h
  ·rw[h];rfl
  ·rw[h,sm_rev];rfl
def nq (p:Int×Int):Int:=p.1*p.1+p.2*p.2
theorem nq_nn (p:Int×Int):0<=nq p:=by
 unfold nq;have h1:0<=p.1*p.1:=by rcases Int.le_total 0 p.1 with h|h;exact Int.mul_nonneg h h;exact A6t h h
 have h2:0<=p.2*p.2:=by rcases Int.le_total 0 p.2 with h|h;exact Int.mul_nonneg h h;exact A6t h h
 omega
theorem nq_turn (o:Nat)(p:Int×Int):nq (a2q o p)=nq p:=by
 unfold a2q nq
 split
 ·rfl
 ·split
  ·dsimp only;rw[A8w];omega
  ·split
   ·dsimp only;rw[A8w,A8w]
   ·dsimp only;rw[A8w];omega
def sumZ:List Int->Int
 | []=>0
 | x::l=>x+sumZ l
theorem sumZ_perm {l m:List Int}(h:l.Perm m):sumZ l=sumZ m:=by
 induction h with
 | nil=>rfl
 | cons x _ ih=>show _+_=_+_;rw[ih]
 | swap x y l=>show _+(_+_)=_+(_+_);omega
 | trans _ _ h1 h2=>rw[h1,h2]
theorem sumZ_add {α:Type}(l:List α)(f g:α->Int):sumZ (l.map fun x=>f x+g x)=sumZ (l.map f)+sumZ (l.map g):=by
 induction l with
 | nil=>rfl
 | cons x l ih=>rw[A0m,A0m,A0m];show _+_=(_+_)+(_+_);rw[ih];omega
theorem sumZ_mul {α:Type}(l:List α)(c:Int)(f:α->Int):sumZ (l.map fun x=>c*f x)=c*sumZ (l.map f):=by
 induction l with
 | nil=>simp[sumZ]
 | cons x l ih=>rw[A0m,A0m];show _+_=_*(_+_);rw[ih,Int.mul_add]
theorem perm_of {l m:List Nat}(nl:l.Nodup)(nm:m.Nodup)(h:∀x,x∈l ↔ x∈m):l.Perm m:=(List.perm_ext_iff_of_nodup nl nm).mpr h
theorem sumZ_zero {α:Type}{l:List α}{f:α->Int}(h:∀x∈l,f x=0):sumZ (l.map f)=0:=by
 induction l with
 | nil=>rfl
 | cons x l ih=>rw[A0m];show _+_=_;rw[h x (by simp),ih fun y hy=>h y (A0d _ hy)];rfl
def wS (n:Nat)(F:Nat->Int):Int:=sumZ ((A5d (2^n)).map F)
theorem wS_inv {n:Nat}(F:Nat->Int)(s:Nat->Nat)(hs:∀c,s (s c)=c)(hl:∀c,c<2^n->s c<2^n):wS n (fun c=>F (s c))=wS n F:=by
 unfold wS;have e:(A5d (2^n)).map (fun c=>F (s c))=((A5d (2^n)).map s).map F:=by rw[A3q];rfl
 rw[e];refine sumZ_perm (List.Perm.map _ (perm_of ?_ List.nodup_range fun x=>?_))
 ·exact List.pairwise_map.mpr (B3g (fun {a b} h z=>h (by rw[<- hs a,z,hs])) List.nodup_range)
 ·rw[A1k,A7s]
  constructor
  ·rintro⟨c,hc,rfl⟩;exact hl c (List.mem_range.mp hc)
  ·intro hx;exact⟨s x,List.mem_range.mpr (hl x hx),hs x⟩
theorem d4d {n:Nat}{F G:Nat->Int}(h:∀c,F c=G c):wS n F=wS n G:=by rw[funext h]
theorem wS_add (n:Nat)(F G:Nat->Int):wS n (fun c=>F c+G c)=wS n F+wS n G:=sumZ_add _ _ _
theorem wS_mul (n:Nat)(k:Int)(F:Nat->Int):wS n (fun c=>k*F c)=k*wS n F:=sumZ_mul _ _ _
theorem wS_inv2 {n:Nat}{F:Nat->Int}(hi:i<n):wS n (fun c=>F (c^^^2^i))=wS n F:=
 wS_inv F (· ^^^ 2^i) (fun c=>a4w c _) fun c hc=>A0z hc (A1r (by decide) hi)
abbrev wW (n:Nat)(f:Nat->Int×Int):Int:=wS n fun c=>nq (f c)
theorem nq_pad_turn (o:Nat)(p q:Int×Int)(h:o<=1):nq (pad (a2q (2*o) p) q)+nq (pad (a2q (2*(1-o)) q) p)=2*(nq p+nq q):=by
 have h0:∀x:Int×Int,a2q (2*0) x=x:=fun x=>rfl;have h2:∀x:Int×Int,a2q (2*1) x=(-x.1,-x.2):=fun x=>rfl
 have key:∀a b:Int,(a+b)*(a+b)+(-b+a)*(-b+a)=2*(a*a+b*b):=by
  intro a b
  have e:(a+b)*(a+b)+(-b+a)*(-b+a)=a*a+a*a+(b*b+b*b):=by
   simp only[Int.add_mul,Int.mul_add,Int.neg_mul,Int.mul_neg,Int.neg_neg,Int.mul_comm b a];omega
  omega
 match o,h with
 | 0,_=>
  rw[h0,h2];show (p.1+q.1)*(p.1+q.1)+(p.2+q.2)*(p.2+q.2)+((-q.1+p.1)*(-q.1+p.1)+(-q.2+p.2)*(-q.2+p.2))=2*(p.1*p.1+p.2*p.2+(q.1*q.1+q.2*q.2));have k1:=key p.1 q.1;have k2:=key p.2 q.2;omega
 | 1,_=>
  rw[h0,h2];show (-p.1+q.1)*(-p.1+q.1)+(-p.2+q.2)*(-p.2+q.2)+((q.1+p.1)*(q.1+p.1)+(q.2+p.2)*(q.2+p.2))=2*(p.1*p.1+p.2*p.2+(q.1*q.1+q.2*q.2));have k1:=key q.1 p.1;have k2:=key q.2 p.2;omega
def DK.fac:DK->Int
 | .both=>2
 | _=>1
theorem DK.fac_pos (k:DK):0<k.fac:=by cases k<;>decide
theorem wW_dF {n:Nat}(hi:i<n)(hj:k.n=2->j<n/\i≠j)(f:Nat->Int×Int):wW n (dF k i j f)=k.fac*wW n f:=by
 cases k with
 | over=>rw[show (DK.fac .over)=1 from rfl,A8q];exact wS_inv2 (F:=fun c=>nq (f c)) hi
 | quarter=>rw[show (DK.fac .quarter)=1 from rfl,A8q];exact d4d fun c=>nq_turn _ _
 | back=>rw[show (DK.fac .back)=1 from rfl,A8q];exact d4d fun c=>nq_turn _ _
 | both=>
  have e1:=wS_inv2 (F:=fun c=>nq (dF .both i j f c)) hi;have e2:=wS_inv2 (F:=fun c=>nq (f c)) hi
  have e3:∀c,nq (dF .both i j f c)+nq (dF .both i j f (c^^^2^i))=2*(nq (f c)+nq (f (c^^^2^i))):=by
   intro c;have:=nq_pad_turn (c.testBit i).toNat (f c) (f (c^^^2^i)) (B0v _);have eo:((c^^^2^i).testBit i).toNat=1-(c.testBit i).toNat:=by rw[flip_tb];cases c.testBit i<;>rfl
   show nq (pad _ _)+nq (pad (a2q (2*((c^^^2^i).testBit i).toNat) (f (c^^^2^i))) (f (c^^^2^i^^^2^i)))=_;rw[eo,a4w];exact this
  have e4:=d4d (n:=n) e3;rw[wS_add,wS_mul,wS_add] at e4;show wW n _=2*wW n f;dsimp only[wW] at e1 e2 e4 ⊢;omega
 | wher=>
  rw[show (DK.fac .wher)=1 from rfl,A8q];obtain⟨hj,hij⟩:=hj rfl;refine wS_inv (fun c=>nq (f c)) (fun c=>c^^^(c.testBit i).toNat*2^j) (fun c=>?_) fun c hc=>?_
  ·rw[c8s hij _ (B0v _),a4w]
  ·refine A0z hc ?_;have:=A1r (a:=2) (by decide) hj;cases c.testBit i
   ·simp;exact A1m n
   ·simpa using this
 | swap=>
  rw[show (DK.fac .swap)=1 from rfl,A8q];obtain⟨hj,hij⟩:=hj rfl;refine wS_inv (fun c=>nq (f c)) (fun c=>ex c i j) (fun c=>ex_two hij c) fun c hc=>?_;unfold ex;have h1:=A1r (a:=2) (by decide) hj;have h2:=A1r (a:=2) (by decide) hi
  have b:∀(x:Bool) (k:Nat),2^k<2^n->x.toNat*2^k<2^n:=by
   intro x k hk;cases x
   ·simp;exact A1m n
   ·simpa using hk
  exact A0z (A0z hc (b _ _ h2)) (b _ _ h1)
theorem start_wv (c:Nat):wv [(0,((1:Int),(0:Int)))] c=if 0=c then (1,0) else (0,0):=c8u _ _ _ _
theorem cnt_no:∀n,cnt (fun _=>false) n=0
 | 0=>rfl
 | n+1=>by unfold cnt;rw[cnt_no n];rfl
theorem stab_deed {n:Nat}(ok:r.Ok n)(hd:d.Ok n)(h:rF r n (sm ws)=sm ws):rF (act d r) n (dfd d (sm ws))=dfd d (sm ws):=by
 rw[<- dF_rF ok hd,h]
theorem stab_start (n z:Nat):rF ⟨0,0,z⟩ n (wv [(0,(1,0))])=wv [(0,(1,0))]:=by
 funext c
 unfold rF;show a2q (qq ⟨0,0,z⟩ (c^^^0) n) (wv _ (c^^^0))=_;rw[A1c]
 by_cases hc:0=c
 ·subst hc;refine Eq.trans (a2m (b:=0) ?_ _) rfl;unfold qq
  have e1:cnt (fun i=>z.testBit i&&(0:Nat).testBit i) n=0:=by
   rw[a8f (q:=fun _=>false) fun i _=>by simp];exact cnt_no n
  have e2:cnt (fun i=>(0:Nat).testBit i&&z.testBit i) n=0:=by
   rw[a8f (q:=fun _=>false) fun i _=>by simp];exact cnt_no n
  show (2*0+2*cnt (fun i=>z.testBit i&&(0:Nat).testBit i) n+cnt (fun i=>(0:Nat).testBit i&&z.testBit i) n)%4=0;rw[e1,e2]
 ·rw[start_wv,if_neg hc,b5e]
theorem trn_qq {n:Nat}(ok:r.Ok n)(b:Nat):trn r b=qq r b n:=by
 unfold trn qq;rw[c2k n (r.z&&&b) (A2n A8u ok.z),c2k n (r.x&&&r.z) (A2n A8u ok.x)];rw[a8f (p:=(r.z&&&b).testBit) (q:=fun i=>r.z.testBit i&&b.testBit i) fun i _=>A2f _ _ _,a8f (p:=(r.x&&&r.z).testBit) (q:=fun i=>r.x.testBit i&&r.z.testBit i) fun i _=>A2f _ _ _]
def Bn (B:Nat)(f:Nat->Int×Int):Prop:=∀c,(f c).1.natAbs<=B/\(f c).2.natAbs<=B
theorem d6j (q:Nat)(h:p.1.natAbs<=B/\p.2.natAbs<=B):(a2q q p).1.natAbs<=B/\(a2q q p).2.natAbs<=B:=by
 have:=turn_abs q (p:=p) (N:=B+1) ⟨by omega,by omega⟩;omega
theorem pad_le {q:Int×Int}(h:p.1.natAbs<=A/\p.2.natAbs<=A)(h2:q.1.natAbs<=B/\q.2.natAbs<=B):(pad p q).1.natAbs<=A+B/\(pad p q).2.natAbs<=A+B:=by
 unfold pad;dsimp only;omega
theorem Bn.dF {B:Nat}{f:Nat->Int×Int}(h:Bn B f)(k:DK)(i j:Nat):Bn (2*B) (Tw.dF k i j f):=by
 have one:∀p:Int×Int,p.1.natAbs<=B/\p.2.natAbs<=B->p.1.natAbs<=2*B/\p.2.natAbs<=2*B:=fun p h=>by omega
 intro c
 cases k with
 | over=>exact one _ (h _)
 | quarter=>exact one _ (d6j _ (h _))
 | back=>exact one _ (d6j _ (h _))
 | both=>
  have:=pad_le (d6j (2*(c.testBit i).toNat) (h c)) (h (c^^^2^i));rw[<- Nat.two_mul] at this;exact this
 | wher=>exact one _ (h _)
 | swap=>exact one _ (h _)
theorem Bn.start:Bn 1 (wv [(0,(1,0))]):=fun c=>by
 rw[start_wv]
 split<;>decide
theorem Bn.mono {f:Nat->Int×Int}(h:Bn A f)(hl:A<=B):Bn B f:=fun c=>⟨A0y (h c).1 hl,A0y (h c).2 hl⟩
end Tw
namespace Tw
section
variable {R:Type} [B2p R]
def lf (c:Nat->R):List (Nat->R)->Nat->R
 | [],_=>0
 | w::ws,j=>c 0*w j+lf (fun l=>c (l+1)) ws j
end
def GI:Type:=Int×Int
def GI.re (a:GI):Int:=a.1
def GI.im (a:GI):Int:=a.2
def GI.mk (a b:Int):GI:=(a,b)
theorem GI.ext {a b:GI}(h1:a.re=b.re)(h2:a.im=b.im):a=b:=A5t h1 h2
instance:Add GI:=⟨fun a b=>GI.mk (a.re+b.re) (a.im+b.im)⟩
instance:Mul GI:=⟨fun a b=>GI.mk (a.re*b.re-a.im*b.im) (a.re*b.im+a.im*b.re)⟩
instance:Neg GI:=⟨fun a=>GI.mk (-a.re) (-a.im)⟩
instance:Sub GI:=⟨fun a b=>GI.mk (a.re-b.re) (a.im-b.im)⟩
instance:NatCast GI:=⟨fun n=>GI.mk n 0⟩
instance:IntCast GI:=⟨fun n=>GI.mk n 0⟩
instance (n:Nat):OfNat GI n:=⟨GI.mk n 0⟩
def GI.npow (a:GI):Nat->GI
 | 0=>1
 | n+1=>GI.npow a n*a
instance:HPow GI Nat GI:=⟨GI.npow⟩
instance:SMul Nat GI:=⟨fun n a=>(n:GI)*a⟩
instance:SMul Int GI:=⟨fun n a=>(n:GI)*a⟩
theorem GI.add_re (a b:GI):(a+b).re=a.re+b.re:=rfl
theorem GI.add_im (a b:GI):(a+b).im=a.im+b.im:=rfl
theorem GI.mul_re (a b:GI):(a*b).re=a.re*b.re-a.im*b.im:=rfl
theorem GI.mul_im (a b:GI):(a*b).im=a.re*b.im+a.im*b.re:=rfl
instance:B2p GI where
 add_zero a:=GI.ext (Int.add_zero _) (Int.add_zero _)
 add_comm a b:=GI.ext (B3r _ _) (B3r _ _)
 add_assoc a b c:=GI.ext (B2z _ _ _) (B2z _ _ _)
 mul_assoc a b c:=GI.ext (by simp only[GI.mul_re,GI.mul_im];grind) (by simp only[GI.mul_re,GI.mul_im];grind)
 mul_one a:=GI.ext (show a.re*1-a.im*0=a.re by omega) (show a.re*0+a.im*1=a.im by omega)
 mul_comm a b:=GI.ext (by simp only[GI.mul_re,GI.mul_im];grind) (by simp only[GI.mul_re,GI.mul_im];grind)
 left_distrib a b c:=GI.ext (by simp only[GI.mul_re,GI.mul_im,GI.add_re,GI.add_im];grind) (by simp only[GI.mul_re,GI.mul_im,GI.add_re,GI.add_im];grind)
 zero_mul a:=GI.ext (show 0*a.re-0*a.im=0 by omega) (show 0*a.im+0*a.re=0 by omega)
 one_mul a:=GI.ext (show 1*a.re-0*a.im=a.re by omega) (show 1*a.im+0*a.re=a.im by omega)
 mul_zero a:=GI.ext (show a.re*0-a.im*0=0 by omega) (show a.re*0+a.im*0=0 by omega)
 right_distrib a b c:=GI.ext (by simp only[GI.mul_re,GI.mul_im,GI.add_re,GI.add_im];grind) (by simp only[GI.mul_re,GI.mul_im,GI.add_re,GI.add_im];grind)
 pow_zero a:=rfl
 pow_succ a n:=rfl
 ofNat_succ n:=GI.ext (show ((n+1:Nat):Int)=(n:Int)+((1:Nat):Int) by omega) rfl
 ofNat_eq_natCast n:=rfl
 nsmul_eq_natCast_mul n a:=rfl
 neg_add_cancel a:=GI.ext (show -a.re+a.re=0 by omega) (show -a.im+a.im=0 by omega)
 sub_eq_add_neg a b:=GI.ext (show a.re-b.re=a.re + -b.re by omega) (show a.im-b.im=a.im + -b.im by omega)
 neg_zsmul i a:=GI.ext (show -i*a.re-0*a.im= -(i*a.re-0*a.im) by grind) (show -i*a.im+0*a.re= -(i*a.im+0*a.re) by grind)
 zsmul_natCast_eq_nsmul n a:=rfl
 intCast_ofNat n:=rfl
 intCast_neg i:=GI.ext rfl (show (0:Int) = -0 by omega)
end Tw
namespace Tw
open PySem L2
section
variable {n:Nat}{f:Nat->Int×Int}{rs:List Row}{A B:List Nat}
end
end Tw
namespace L2
open PySem PySem.Spec PyProof.Rows
section
variable {X:Cx}{tg:Expr}
end
section
variable {K:A0a}{a b:Addr}{xs ys:List V}{g:TG}{tb:TS}{D:c1z}{σ:St}{H:Hp}
end
end L2
namespace Tw
open PySem L2
variable {p:Int×Int}{rs:List Row}{k m v x z:Nat}{o r s:Row}{ws:Wh}
def pD (p:Int×Int):PyData:=.tuple [.int p.1,.int p.2]
def lD (ps:List (Int×Int)):PyData:=.list (ps.map pD)
def Sb (f:Nat->Int×Int)(r:Row):Prop:=∀c,f (c^^^r.x)=a2q (trn r c) (f c)
theorem sb_of {n:Nat}{f:Nat->Int×Int}(ok:r.Ok n)(h:rF r n f=f):Sb f r:=fun c=>by
 have e:=congrFun h (c^^^r.x);unfold rF at e;rw[A0q,A1g,A1c] at e;rw[<- e,trn_qq ok]
theorem of_sb {n:Nat}{f:Nat->Int×Int}(ok:r.Ok n)(h:Sb f r):rF r n f=f:=funext fun c=>by
 have e:=h (c^^^r.x);unfold rF;rw[A0q,A1g,A1c] at e;rw[e,trn_qq ok]
theorem prod_tm (h:a3d r s=false):prod r s=tm r s:=by
 have h1:=prod_m r s;have h2:=tm_prog h;have e:qrt r s=2*((r.m:Int)+(s.m:Int)+(pop (r.x&&&s.z):Int))+(pop (r.x&&&r.z):Int)+(pop (s.x&&&s.z):Int)-(pop ((r.x^^^s.x)&&&(r.z^^^s.z)):Int):=rfl;rw[e] at h1;have h3:(prod r s).m=(tm r s).m:=by omega
 calc prod r s=⟨(prod r s).m,r.x^^^s.x,r.z^^^s.z⟩:=rfl
  _=⟨(tm r s).m,r.x^^^s.x,r.z^^^s.z⟩:=by rw[h3]
  _=tm r s:=rfl
theorem Sb.tm {f:Nat->Int×Int}{r q:Row}(hr:Sb f r)(hq:Sb f q)(h:a3d r q=false):Sb f (tm r q):=by
 rw[<- prod_tm h];intro c;have hc:pop (crs r q)%2=0:=(a9m r q).1 h;obtain⟨e1,e2⟩:=prod_does hc c;rw[<- e1,hq,hr,a2v];exact a2m (by omega) _
theorem Sb.zero (f:Nat->Int×Int):Sb f ⟨0,0,0⟩:=fun c=>by
 show f (c^^^0)=a2q (trn ⟨0,0,0⟩ c) (f c);rw[A1c,b4t _ (by unfold trn;rw[A6r,A6r,a7z];rfl)]
theorem Sb.pr {f:Nat->Int×Int}{rs:List Row}(com:∀r∈rs,∀s∈rs,a3d r s=false)(st:∀r∈rs,Sb f r):∀{us:List Row},(∀u∈us,u∈rs)->Sb f (pr us.reverse)
 | [],_=>Sb.zero f
 | u::us,hu=>by
  rw[A5z,c8q];exact(Sb.pr com st fun v hv=>hu v (A0d _ hv)).tm (st u (hu u A0k)) (pr_com com (fun v hv=>hu v (A0d _ hv)) u (hu u A0k))
theorem Sb.pr' {f:Nat->Int×Int}{us:List Row}(com:∀r∈rs,∀s∈rs,a3d r s=false)(st:∀r∈rs,Sb f r)(hu:∀u∈us,u∈rs):Sb f (Tw.pr us):=by
 have:=Sb.pr com st (us:=us.reverse) fun u h=>hu u (List.mem_reverse.1 h)
 rwa [B2c] at this
def half (r:Row)(ws:Wh):Wh:=wnz (c2x ws (ws.map (tE r)))
theorem d4k:∀(es acc:Wh),(acc.map (·.1)).Nodup->((c2x acc es).map (·.1)).Nodup
 | [],_,h=>h
 | e::es,acc,h=>d4k es (wadd acc e.1 e.2) (wadd_nd h)
theorem sm_tE (r:Row)(ws:Wh)(c:Nat):sm (ws.map (tE r)) c=a2q (trn r (c^^^r.x)) (sm ws (c^^^r.x)):=by
 induction ws with
 | nil=>exact(b5e _).symm
 | cons e ws ih=>
  obtain⟨b,p⟩:=e;rw[A0m];show pad (if b^^^r.x=c then a2q (trn r b) p else (0,0)) (sm (ws.map (tE r)) c)=a2q (trn r (c^^^r.x)) (pad (if b=c^^^r.x then p else (0,0)) (sm ws (c^^^r.x)));rw[ih,b3p];refine congrArg (fun z=>pad z _) ?_
  by_cases h:b^^^r.x=c
  ·rw[if_pos h,if_pos (a9j.mp h),<- a9j.mp h]
  ·rw[if_neg h,if_neg fun z=>h (a9j.mpr z),b5e]
theorem b4u (nd:(ws.map (·.1)).Nodup)(c:Nat):wv (half r ws) c=pad (wv ws c) (a2q (trn r (c^^^r.x)) (wv ws (c^^^r.x))):=by
 unfold half;rw[wnz_wv (d4k _ _ nd),wv_adds,sm_tE,wv_sm nd,wv_sm nd]
theorem Wn.halfJ {n:Nat}(h:Wn n ws)(ok:r.x<2^n):Wn n (half r ws) where
 nd:=wnz_nd (d4k _ _ h.nd)
 nz:=fun e he=>by
  unfold half wnz at he;exact of_decide_eq_true (List.mem_filter.mp he).2
 lt:=fun e he=>by
  unfold half wnz at he;refine adds_lt _ h.lt (fun e he=>?_) e (List.mem_filter.mp he).1;obtain⟨e',he',rfl⟩:=List.mem_map.mp he;exact A0z (h.lt e' he') ok
theorem wn_ne {n:Nat}(h:Wn n ws)(hn:ws≠[]):∃c,c<2^n/\wv ws c≠(0,0):=by
 match ws,hn,h with
 | e::ws,_,h=>
  obtain⟨b,p⟩:=e;exact⟨b,h.lt _ A0k,by rw[c8u,if_pos rfl];exact h.nz _ A0k⟩
theorem wn_nil {n:Nat}(h:Wn n ws)(hz:∀c,wv ws c=(0,0)):ws=[]:=by
 by_cases c:ws=[]
 ·exact c
 ·obtain⟨x,_,hx⟩:=wn_ne h c;exact absurd (hz x) hx
theorem turn_two (p:Int×Int):pad p (a2q 2 p)=(0,0):=by
 rw[turn_2];unfold pad;refine A5t ?_ ?_
 ·show p.1+(0-p.1)=0;omega
 ·show p.2+(0-p.2)=0;omega
theorem pad_zero {q:Int×Int}(h:pad p q=(0,0)):q=a2q 2 p:=by
 rw[turn_2];have h1:p.1+q.1=0:=congrArg Prod.fst h;have h2:p.2+q.2=0:=congrArg Prod.snd h;refine A5t ?_ ?_
 ·show q.1=0-p.1;omega
 ·show q.2=0-p.2;omega
theorem pad_self (h:pad p p=(0,0)):p=(0,0):=by
 have h1:p.1+p.1=0:=congrArg Prod.fst h;have h2:p.2+p.2=0:=congrArg Prod.snd h;exact A5t (show p.1=0 by omega) (show p.2=0 by omega)
theorem trn_m (hv:v<=1)(c:Nat):trn ⟨v^^^1,x,z⟩ c%4=(2+trn ⟨v,x,z⟩ c)%4:=by
 unfold trn;dsimp only
 rcases (show v=0\/v=1 by omega) with h|h
 ·rw[h,show (0:Nat)^^^1=1 by decide];omega
 ·rw[h,show (1:Nat)^^^1=0 by decide];omega
theorem d4h {n:Nat}(h:Wn n ws)(hx:x<2^n)(hv:v<=1):half ⟨v^^^1,x,z⟩ ws=[] ↔ Sb (wv ws) ⟨v,x,z⟩:=by
 constructor
 ·intro e c;have e1:=b4u (r:=⟨v^^^1,x,z⟩) h.nd (c^^^x);rw[e] at e1;have e2:=pad_zero e1.symm;dsimp only at e2;rw[A0q,A1g,A1c] at e2;have e3:=congrArg (a2q 2) e2;rw[a2v,a2v,b4t (2+2) (by decide)] at e3;show wv ws (c^^^x)=a2q (trn ⟨v,x,z⟩ c) (wv ws c);rw[<- e3];refine a2m ?_ _;have:=trn_m (x:=x) (z:=z) hv c;omega
 ·intro hs;refine wn_nil (h.halfJ hx) fun c=>?_;rw[b4u h.nd];dsimp only;have e:=hs (c^^^x);dsimp only at e;rw[A0q,A1g,A1c] at e;have m:=trn_m (x:=x) (z:=z) hv (c^^^x);rw[a2m (b:=2+trn ⟨v,x,z⟩ (c^^^x)) (by omega),<- a2v,<- e];exact turn_two _
theorem half_nil0 {n:Nat}(h:Wn n ws)(hx:x<2^n):half ⟨1,x,z⟩ ws=[] ↔ Sb (wv ws) ⟨0,x,z⟩:=d4h (v:=0) h hx (by decide)
theorem half_nil1 {n:Nat}(h:Wn n ws)(hx:x<2^n):half ⟨0,x,z⟩ ws=[] ↔ Sb (wv ws) ⟨1,x,z⟩:=d4h (v:=1) h hx (by decide)
theorem half_two {n:Nat}(h:Wn n ws)(hn:ws≠[])(hs:Sb (wv ws) ⟨v,x,z⟩):half ⟨v,x,z⟩ ws≠[]:=fun e=>by
 obtain⟨c,_,hc⟩:=wn_ne h hn;have e1:=b4u (r:=⟨v,x,z⟩) h.nd c;have e2:=hs (c^^^x);dsimp only at e1 e2;rw[A0q,A1g,A1c] at e2;rw[e,<- e2] at e1;exact hc (pad_self e1.symm)
theorem Sb.com {f:Nat->Int×Int}(hr:Sb f r)(hs:Sb f s){c:Nat}(hc:f c≠(0,0)):a3d r s=false:=by
 cases e:a3d r s with
 | false=>rfl
 | true=>
  exfalso;have e1:f ((c^^^r.x)^^^s.x)=a2q (trn s (c^^^r.x)+trn r c) (f c):=by rw[hs,hr,a2v]
  have e2:f ((c^^^s.x)^^^r.x)=a2q (trn r (c^^^s.x)+trn s c) (f c):=by rw[hr,hs,a2v]
  rw[show (c^^^s.x)^^^r.x=(c^^^r.x)^^^s.x by rw[A0q,A0q,A4m s.x],e1] at e2;have h1:=trn_about r s c
  have h2:pop (crs r s)%2=1:=by
   have:=(a9m r s);have h3:¬pop ((r.x&&&s.z)^^^(r.z&&&s.x))%2=0:=fun z=>by rw[this.2 z] at e;cases e
   have h4:crs r s=(r.x&&&s.z)^^^(r.z&&&s.x):=rfl;rw[h4];omega
  have h5:a2q (trn s (c^^^r.x)+trn r c) (f c)=a2q 2 (a2q (trn s (c^^^r.x)+trn r c) (f c)):=by
   rw[a2v]
   conv=>lhs;rw[e2]
   exact a2m (by omega) _
  generalize hy:a2q (trn s (c^^^r.x)+trn r c) (f c)=y at h5
  have h6:y=(0,0):=by
   rw[turn_2] at h5;have h7:y.1=0-y.1:=congrArg Prod.fst h5;have h8:y.2=0-y.2:=congrArg Prod.snd h5;exact A5t (show y.1=0 by omega) (show y.2=0 by omega)
  rw[h6] at hy;have h9:=congrArg (a2q (3*(trn s (c^^^r.x)+trn r c))) hy;rw[a2v,b4t _ (by omega),b5e] at h9;exact hc h9
theorem trn_back (t:Row)(c:Nat):(trn t c+trn t (c^^^t.x))%4=0:=by
 obtain⟨h1,h2⟩:=prod_does (crs_self t) c;have e0:=prod_self t;unfold Row.V at e0;simp only[B3w,V.int.injEq,and_true] at e0;obtain⟨m0,x0,z0⟩:=e0
 have t0:trn (prod t t) c=0:=by
  unfold trn;rw[show (prod t t).m=0 by omega,show (prod t t).x=0 by omega,show (prod t t).z=0 by omega,A6r,A6r,a7z]
 rw[t0] at h2;omega
theorem Sb.half {n:Nat}{s t:Row}{ws:Wh}(h:Wn n ws)(hs:Sb (wv ws) s)(hst:a3d s t=false):Sb (wv (half t ws)) s:=fun c=>by
 rw[b4u h.nd,b4u h.nd,b3p,hs,a2v]
 congr 1
 rw[show (c^^^s.x)^^^t.x=(c^^^t.x)^^^s.x by rw[A0q,A0q,A4m s.x],hs,a2v];refine a2m ?_ _;have h1:=trn_about s t (c^^^t.x);have h2:pop (crs s t)%2=0:=(a9m s t).1 hst;rw[show c^^^t.x^^^t.x=c by rw[A0q,A1g,A1c]] at h1;omega
theorem Sb.halfSelf {n:Nat}{t:Row}(h:Wn n ws):Sb (wv (Tw.half t ws)) t:=fun c=>by
 rw[b4u h.nd,b4u h.nd,b3p,a2v,A0q,A1g,A1c,d5z]
 congr 1
 rw[b4t _ (trn_back t c)]
structure Jt (n k:Nat)(ws:Wh)(rs:List Row):Prop where
 wn:Wn n ws
 kp:Kept n rs
 st:∀r∈rs,Sb (wv ws) r
 ne:ws≠[]
 bn:Bn (2^k) (wv ws)
theorem Jt.deed {n k:Nat}{ws:Wh}{rs:List Row}(h:Jt n k ws rs){d:Dd}(ok:d.Ok n):Jt n (k+1) (wnz (a6k d ws)) (rs.map (act d)):=by
 have e:=deedF_wv ok h.wn.nd;have e2:wv (wnz (a6k d ws))=dfd d (wv ws):=by rw[wnz_wv (d4z d ws),e]
 refine⟨h.wn.deed ok,h.kp.act ok,fun r hr=>?_,fun z=>?_,?_⟩
 ·obtain⟨u,hu,rfl⟩:=A1k.1 hr;have ou:=h.kp.ok u hu;have s:=of_sb ou (h.st u hu);have e1:wv ws=sm ws:=funext fun c=>wv_sm h.wn.nd c;rw[e1] at s;have:=stab_deed ou ok s;rw[e2,e1];exact sb_of (act_ok ou ok) this
 ·have w0:wW n (wv (wnz (a6k d ws)))=0:=by
   rw[z];exact sumZ_zero fun x _=>rfl
  rw[e2] at w0;have w1:wW n (dF d.k (d.w.getD 0 0) (d.w.getD 1 0) (wv ws))=d.k.fac*wW n (wv ws):=wW_dF ok.one.1 ok.one.2.1 _;rw[show wW n (dfd d (wv ws))=wW n (dF d.k (d.w.getD 0 0) (d.w.getD 1 0) (wv ws)) from rfl,w1] at w0;have w2:wW n (wv ws)=0:=(Int.mul_eq_zero.1 w0).resolve_left (Int.ne_of_gt (DK.fac_pos _));obtain⟨c,hc,hn⟩:=wn_ne h.wn h.ne
  have nn:∀l:List Nat,0<=sumZ (l.map fun c=>nq (wv ws c)):=by
   intro l
   induction l with
   | nil=>exact Int.le_refl _
   | cons x l ih=>
    rw[A0m];have:=nq_nn (wv ws x);show 0<=_+_;omega
  have all0:∀l:List Nat,sumZ (l.map fun c=>nq (wv ws c))=0->∀x∈l,nq (wv ws x)=0:=by
   intro l
   induction l with
   | nil=>intro _ x hx;cases hx
   | cons y l ih=>
    intro hl x hx;rw[A0m] at hl;have hl':nq (wv ws y)+sumZ (l.map fun c=>nq (wv ws c))=0:=hl;have h1:=nq_nn (wv ws y);have h2:=nn l
    rcases A3a.1 hx with rfl|hx
    ·omega
    ·exact ih (by omega) x hx
  exact sq_ne hn (all0 _ w2 c (A7s.2 hc))
 ·rw[e2,A2w,B1s];exact Bn.dF h.bn _ _ _
def stlJ (rs:List Row)(o:Row)(v:Nat):List Row:=match rs.filter fun r=>a3d r o with
 | []=>rs
 | c::cs=>rs.filter (fun r=>!a3d r o)++cs.map (tm c)++[⟨v,o.x,o.z⟩]
theorem Jt.sure {n:Nat}(h:Jt n k ws rs)(hm:m<2^rs.length)(hl:Lsel rs m o):Sb (wv ws) ⟨(pr (pk rs (plc m rs.length))).m,o.x,o.z⟩:=by
 have s:=Sb.pr' h.kp.com h.st (us:=pk rs (plc m rs.length)) (pk_mem fun k hk=>plc_lt _ _ _ hk);have l:=pr_lsel hm;have e1:(pr (pk rs (plc m rs.length))).x=o.x:=l.1.symm.trans hl.1;have e2:(pr (pk rs (plc m rs.length))).z=o.z:=l.2.symm.trans hl.2;generalize pr (pk rs (plc m rs.length))=q at s e1 e2;obtain⟨qm,qx,qz⟩:=q;dsimp only at e1 e2 ⊢;rw[<- e1,<- e2];exact s
theorem Jt.free {n:Nat}(h:Jt n k ws rs)(oo:o.Ok n)(hn:¬Spn (rs.map (sn n)) (sn n o))(v:Nat):¬Sb (wv ws) ⟨v,o.x,o.z⟩:=fun hs=>by
 obtain⟨r,hr,hb⟩:=h.kp.full oo hn;obtain⟨c,_,hc⟩:=wn_ne h.wn h.ne;have:=(h.st r hr).com hs hc;rw[show a3d r ⟨v,o.x,o.z⟩=a3d r o from rfl,hb] at this;cases this
theorem Jt.settle {n k:Nat}{ws:Wh}{rs:List Row}(h:Jt n k ws rs){o:Row}(oo:o.Ok n)(hn:¬Spn (rs.map (sn n)) (sn n o)){v:Nat}(hv:v<=1):Jt n (k+1) (half ⟨v,o.x,o.z⟩ ws) (stlJ rs o v):=by
 obtain⟨r,hr,hb⟩:=h.kp.full oo hn
 have ne:half ⟨v,o.x,o.z⟩ ws≠[]:=fun e=>by
  have:=(d4h (v:=v^^^1) (z:=o.z) h.wn oo.x (by rcases (show v=0\/v=1 by omega) with h|h<;>rw[h]<;>decide)).1 (by rw[A0q,A1g,A1c];exact e)
  exact h.free oo hn _ this
 have bn:Bn (2^(k+1)) (wv (half ⟨v,o.x,o.z⟩ ws)):=fun c=>by
  rw[b4u h.wn.nd,A2w];dsimp only;have h1:=h.bn c;have h2:=d6j (trn ⟨v,o.x,o.z⟩ (c^^^o.x)) (h.bn (c^^^o.x));have:=pad_le h1 h2;omega
 cases hf:rs.filter (fun r=>a3d r o) with
 | nil=>
  have:r∈rs.filter (fun r=>a3d r o):=A4z.2 ⟨hr,hb⟩;rw[hf] at this;cases this
 | cons c cs=>
  have e:stlJ rs o v=rs.filter (fun r=>!a3d r o)++cs.map (tm c)++[⟨v,o.x,o.z⟩]:=by
   unfold stlJ;rw[hf]
  have mcs:∀r∈c::cs,r∈rs/\a3d r o=true:=fun r hr=>by
   rw[<- hf,A4z] at hr;exact hr
  refine⟨h.wn.halfJ oo.x,e▸h.kp.settle oo hn hf hv,fun s hs=>?_,ne,bn⟩;rw[e] at hs
  rcases A1q.1 hs with hs|hs
  ·rcases A1q.1 hs with hs|hs
   ·obtain⟨h1,h2⟩:=A4z.1 hs;exact(h.st s h1).half h.wn (show a3d s o=false by simpa using h2)
   ·obtain⟨u,hu,rfl⟩:=A1k.1 hs;obtain⟨u1,u2⟩:=mcs u (A0d _ hu);obtain⟨c1,c2⟩:=mcs c A0k;refine((h.st c c1).tm (h.st u u1) (h.kp.com c c1 u u1)).half h.wn ?_;show a3d (tm c u) o=false;rw[b9d (d2w c u),c2,u2];rfl
  ·rw[A0t.1 hs];exact Sb.halfSelf h.wn
def jv (ws:Wh)(o:Row):Option Nat:=if half ⟨1,o.x,o.z⟩ ws=[] then some 0 else if half ⟨0,o.x,o.z⟩ ws=[] then some 1 else none
theorem Jt.jsure {n:Nat}(h:Jt n k ws rs)(oo:o.Ok n)(hm:m<2^rs.length)(hl:Lsel rs m o):jv ws o=some (pr (pk rs (plc m rs.length))).m:=by
 have s:=h.sure hm hl;have hv:=pr_m (pk rs (plc m rs.length));generalize (pr (pk rs (plc m rs.length))).m=v at s hv;unfold jv
 rcases (show v=0\/v=1 by omega) with rfl|rfl
 ·rw[if_pos ((half_nil0 (z:=o.z) h.wn oo.x).2 s)]
 ·have e1:=half_two h.wn h.ne s;rw[if_neg e1,if_pos ((half_nil1 (z:=o.z) h.wn oo.x).2 s)]
theorem Jt.jfree {n:Nat}(h:Jt n k ws rs)(oo:o.Ok n)(hn:∀m,¬Lsel rs m o):jv ws o=none:=by
 have hs:=lsel_spn h.kp.ok oo hn;unfold jv;rw[if_neg fun e=>h.free oo hs 0 ((half_nil0 (z:=o.z) h.wn oo.x).1 e),if_neg fun e=>h.free oo hs 1 ((half_nil1 (z:=o.z) h.wn oo.x).1 e)]
theorem Jt.none_of {n:Nat}(h:Jt n k ws rs)(oo:o.Ok n)(e:jv ws o=none):¬Spn (rs.map (sn n)) (sn n o):=by
 rintro⟨m,hm,es⟩;rw[A0c] at hm;have hl:=(d6k (w:=n) (fun s hs=>(h.kp.ok s hs).x) oo.x m).1 es;rw[h.jsure oo hm hl] at e;cases e
end Tw
namespace L2
open PySem PySem.Spec PyProof.Rows
theorem vals_mem1:∀{xs:List V} {us:List Value},a5f xs us->∀{w:Value},w∈us->∃x,x∈xs/\a4s x w
 | _,_,.nil,w,h=>by cases h
 | _,_,.cons h t,w,hw=>by
  rcases List.mem_cons.mp hw with rfl|hw
  ·exact⟨_,A0k,h⟩
  ·obtain⟨x,hx,r⟩:=vals_mem1 t hw;exact⟨x,A0d _ hx,r⟩
theorem vals_mem {xs:List V}{us:List Value}(h:a5f xs us):∀{ws:List Value},(∀w∈ws,w∈us)->∃ys:List V,a5f ys ws/\∀y∈ys,y∈xs
 | [],_=>⟨[],.nil,fun _ z=>nomatch z⟩
 | w::ws,hw=>by
  obtain⟨ys,h1,h2⟩:=vals_mem h (ws:=ws) fun x hx=>hw x (A0d _ hx);obtain⟨x,hx,r⟩:=vals_mem1 h (hw w A0k);refine⟨x::ys,.cons r h1,fun m hm=>?_⟩
  rcases List.mem_cons.mp hm with rfl|z
  ·exact hx
  ·exact h2 m z
def rSlStepV (K:A0a):V->Hp->VK->Prop:=fun x H Q=>∃a,∃xs:List V,x=.ref a/\SqL K H a xs/\∀p (ys:List V),H p=none->ys.length<=xs.length->(∀y∈ys,y∈xs)->Q (.ref p) (upd H p (.lst ys))
section
variable {X:Cx}{e:Expr}{lo hi:Option Expr}{st:Expr}{te ts:TE}{tl th:TO}{p2 pos:Pos}
def tSl3V (K:A0a)(te:TE)(tl th:TO)(ts:TE):TE:=fun σ H Q=>te σ H fun x H1=>tl σ H1 fun _ H2=>th σ H2 fun _ H3=>ts σ H3 fun y H4=>∃i:Int,y=.int i/\i≠0/\rSlStepV K x H4 Q
theorem st_sl3V {K:A0a}{σ:St}{H:Hp}{Q:VK}(h:te σ H fun x H1=>tl σ H1 fun _ H2=>th σ H2 fun _ H3=>ts σ H3 fun y H4=>∃i:Int,y=.int i/\i≠0/\rSlStepV K x H4 Q):tSl3V K te tl th ts σ H Q:=h
theorem pe_slice3V (he:PE X e te)(hl:PO X lo tl)(hu:PO X hi th)(hs:PE X st ts):PE X (.Subscript e (.Slice lo hi (some st) p2) pos) (tSl3V X.K te tl th ts):=by
 intro pins s σ H Q I h;refine Subscript_ (thn (he pins s σ H _ I h) fun v s1 hq9=>?_);obtain⟨x,H1,I1,r1,q1⟩:=hq9;refine wpAny_Slice (thn (hl pins s1 σ H1 _ I1 q1) fun vl s2 ⟨l,H2,I2,pl,q2⟩=>thn (hu pins s2 σ H2 _ I2 q2) fun vu s3 hq9=>?_);obtain⟨u,H3,I3,pu,q3⟩:=hq9;rw[evalPart_some];refine thn (hs pins s3 σ H3 _ I3 q3) fun vs s4 hq9=>?_;obtain⟨y,H4,I4,r4,i,ey,i0,q4⟩:=hq9;subst ey;obtain⟨t,rfl⟩:=r4;obtain⟨a,xs,rfl,hx,q⟩:=q4;cases r1;have I5:Inv X pins σ H4 { s4 with heap:=s4.heap.push { cls:=.type "slice",data:=.fields #[vl,vu,.int i t] } }:=I4.kept (t':=s4.toks) fun b ob q=>Heap.get?_push_of_some _ q;obtain⟨its,r,ht,hz⟩:=I5.list hx;have hlen:its.length=xs.length:=r.length.symm
 have hsub:∀w∈(slicePick its.toArray l u (some i)).toList,w∈its:=fun w hw=>by
  unfold slicePick at hw;obtain⟨j,_,e⟩:=List.mem_filterMap.mp (by simpa using hw);have e':its[j]? = some w:=by simpa using e
  exact List.mem_of_getElem? e'
 obtain⟨ms,h1,h2⟩:=vals_mem r hsub
 have hml:ms.length<=xs.length:=by
  have a1:=h1.length
  have a2:(slicePick its.toArray l u (some i)).size<=its.length:=by
   have:=slicePick_size_le its.toArray l u (some i);have e:its.toArray.size=its.length:=A1f;omega
  have a3:(slicePick its.toArray l u (some i)).toList.length=(slicePick its.toArray l u (some i)).size:=A2g;omega
 show wpAny (model X.prog X.w) X.A (subscriptTail e (.Slice lo hi (some st) p2) (.ref a) (.ref s4.heap.objs.size)) (EP X pins σ Q) X.xe { s4 with heap:=s4.heap.push { cls:=.type "slice",data:=.fields #[vl,vu,.int i t] } };refine tail_any (ops:=[.ref a,.ref s4.heap.objs.size]) ht.isList.typeIs slot_list_getitem.lookup (wpAny_getItem_list_slice (st:=some i) ht.isList (B2u ..) pl pu (.int i t) (fun z=>i0 (A0j z)) ?_ (by rw[A1f];omega)) (by with_unfolding_all rfl)
 have J:Inv X pins σ (upd H4 (s4.heap.push { cls:=.type "slice",data:=.fields #[vl,vu,.int i t] }).objs.size (.lst ms)) _:=I5.laid (t':=s4.toks) (h':=(s4.heap.push { cls:=.type "slice",data:=.fields #[vl,vu,.int i t] }).push { cls:=.type "list",data:=.seq (slicePick its.toArray l u (some i)) }) (fun b o eb=>Heap.get?_push_of_some _ eb) (A0f _) ⟨by omega,(slicePick its.toArray l u (some i)).toList,0,h1,by
  have hg:((s4.heap.push { cls:=.type "slice",data:=.fields #[vl,vu,.int i t] }).push { cls:=.type "list",data:=.seq (slicePick its.toArray l u (some i)) }).get? (s4.heap.push { cls:=.type "slice",data:=.fields #[vl,vu,.int i t] }).objs.size=some { cls:=.type "list",data:=.seq (slicePick its.toArray l u (some i)) }:=Heap.get?_push_size _ rfl
  simpa using hg⟩
 exact⟨.ref _,_,J,rfl,q _ _ (I5.hok.fresh (A0f _)) hml h2⟩
end
end L2
set_option maxHeartbeats 400000
namespace Srt
open PySem PyProof.Rows
variable {l:Bool}{b h hi i j lo x:Nat}
abbrev SM:=StateT SortSt Sem
abbrev Fm:=Nat->Keyed
structure AS where
 z:Array Nat
 p:Array (Nat×Nat×Nat)
 g:Nat
abbrev cn (f:Fm)(a:AS):SortSt:=A6s oneType' (a.z.map f) a.p a.g none
def Gd (k:Nat->Int)(f:Fm):Prop:=∀i,∃t,f i=(.int (k i) t,.int (k i) t)
def Ev (k:Nat->Int){α β:Type}(m:Fm->SM α)(g:Fm->β->α)(Q:β->AS->Prop)(a:AS):Prop:=
 ∃b a',Q b a'/\∀(prog:Program) (w:World) (A:Around) (E:Value->Shared->Prop) (s:Shared) (f:Fm),Gd k f->∀R:α->SortSt->Prop,R (g f b) (cn f a')->wpS (model prog w) A E s (m f) R (cn f a)
section
variable {k:Nat->Int}{α β γ δ:Type}{a:AS}{Q:β->AS->Prop}{g:Fm->β->α}
theorem a1c {x:Fm->α}(b:β)(e:∀f,x f=g f b)(q:Q b a):Ev k (fun f=>pure (x f)) g Q a:=
 ⟨b,a,q,fun _ _ _ _ _ f _ R h=>wpS_pure (by rw[e f];exact h)⟩
theorem a7p {m:Fm->SM α}{Q':β->AS->Prop}(h:Ev k m g Q a)(hq:∀b a',Q b a'->Q' b a'):Ev k m g Q' a:=by
 obtain⟨b,a',q,h⟩:=h;exact⟨b,a',hq _ _ q,h⟩
theorem a7u {γ':Type}{m:Fm->SM γ}{g1:Fm->γ'->γ}{n:Fm->γ->SM α}(h:Ev k m g1 (fun b a'=>Ev k (fun f=>n f (g1 f b)) g Q a') a):Ev k (fun f=>m f >>= n f) g Q a:=by
 obtain⟨b,a1,⟨c,a2,q,h2⟩,h1⟩:=h;exact⟨c,a2,q,fun prog w A E s f G R hR=>A9r (h1 prog w A E s f G _ (h2 prog w A E s f G R hR))⟩
theorem c3a {n:Fm->SortSt->SM α}(h:Ev k (fun f=>n f (cn f a)) g Q a):Ev k (fun f=>get >>= n f) g Q a:=by
 obtain⟨b,a1,q,h⟩:=h;exact⟨b,a1,q,fun prog w A E s f G R hR=>A9r (wpS_get (h prog w A E s f G R hR))⟩
theorem b5s {u:Fm->SortSt->SortSt}{n:Fm->PUnit->SM α}(a':AS)(e:∀f,u f (cn f a)=cn f a')(h:Ev k (fun f=>n f ⟨⟩) g Q a'):Ev k (fun f=>modify (u f) >>= n f) g Q a:=by
 obtain⟨b,a1,q,h⟩:=h;exact⟨b,a1,q,fun prog w A E s f G R hR=>A9r (wpS_modify (by rw[e f];exact h prog w A E s f G R hR))⟩
theorem c1y {r:String}{n:Fm->Unit->SM α}(h:Ev k (fun f=>n f ()) g Q a):Ev k (fun f=>liftM (rule r) >>= n f) g Q a:=by
 obtain⟨b,a1,q,h⟩:=h;exact⟨b,a1,q,fun prog w A E s f G R hR=>A9r (wpS_lift (wpAny_rule ⟨rfl,h prog w A E s f G R hR⟩))⟩
theorem ev_elem {z:Array Nat}{n:Fm->Keyed->SM α}(e:z[i]? = some j)(h:Ev k (fun f=>n f (f j)) g Q a):Ev k (fun f=>elem' (z.map f) i >>= n f) g Q a:=by
 obtain⟨b,a1,q,h⟩:=h;refine⟨b,a1,q,fun prog w A E s f G R hR=>?_⟩;dsimp only;rw[elem'_eq,Array.getElem?_map,e];exact A9r (wpS_pure (h prog w A E s f G R hR))
theorem ev_lt {n:Fm->Option Bool->SM α}(h:Ev k (fun f=>n f (some (decide (k i<k j)))) g Q a):Ev k (fun f=>lt' (f i) (f j) >>= n f) g Q a:=by
 obtain⟨b,a1,q,h⟩:=h;refine⟨b,a1,q,fun prog w A E s f G R hR=>?_⟩;obtain⟨t,e1⟩:=G i;obtain⟨u,e2⟩:=G j;dsimp only;rw[lt'_eq,e1,e2];refine A9r (A9r (wpS_get ?_));rw[keyLt'_oneType];refine A9r (wpS_lift (wpAny_attempt (oneLt_int ⟨rfl,?_⟩)));exact wpS_pure (h prog w A E s f G R hR)
theorem ev_ltAt {y:Nat}{n:Fm->Option Bool->SM α}(e1:a.z[i]? = some x)(e2:a.z[j]? = some y)(h:Ev k (fun f=>n f (some (decide (k x<k y)))) g Q a):Ev k (fun f=>ltAt' i j >>= n f) g Q a:=by
 obtain⟨b,a1,q,h⟩:=h;refine⟨b,a1,q,fun prog w A E s f G R hR=>?_⟩;obtain⟨t,g1⟩:=G x;obtain⟨u,g2⟩:=G y;refine A9r (wpS_ltAt (a:=k x) (b:=k y) (t:=t) (u:=u) (p:=.int (k x) t) (q:=.int (k y) u) rfl ?_ ?_ (h prog w A E s f G R hR))
 ·show (a.z.map f)[i]? = _;rw[Array.getElem?_map,e1,A2s,g1]
 ·show (a.z.map f)[j]? = _;rw[Array.getElem?_map,e2,A2s,g2]
def gs (g:Fm->β->α)(f:Fm):ForInStep β->ForInStep α
 | .done b=>.done (g f b)
 | .yield b=>.yield (g f b)
theorem ev_list {body:Fm->Nat->α->SM (ForInStep α)}(I:List Nat->β->AS->Prop)
  (step:∀x r b a,I (x::r) b a->Ev k (fun f=>body f x (g f b)) (gs g) (fun r' a'=>match r' with|.done b'=>Q b' a'|.yield b'=>I r b' a') a)
  (fin:∀b a,I [] b a->Q b a):∀(l:List Nat) (b:β) (a:AS),I l b a->Ev k (fun f=>forIn l (g f b) (body f)) g Q a
 | [],b,a,h=>by
  simp only[List.forIn_nil];exact a1c b (fun _=>rfl) (fin _ _ h)
 | x::r,b,a,h=>by
  simp only[List.forIn_cons];refine a7u (a7p (step x r b a h) fun b' a' h'=>?_)
  cases b' with
  | done c=>exact a1c c (fun _=>rfl) h'
  | yield c=>exact ev_list I step fin r c a' h'
theorem ev_for {body:Fm->Nat->α->SM (ForInStep α)}(I:Nat->β->AS->Prop){b:β}
  (step:∀i b a,lo<=i->i<hi->I i b a->Ev k (fun f=>body f i (g f b)) (gs g) (fun r' a'=>match r' with|.done b'=>Q b' a'|.yield b'=>I (i+1) b' a') a)
  (fin:∀b a,I (max lo hi) b a->Q b a) (h:I lo b a):Ev k (fun f=>forIn [lo:hi] (g f b) (body f)) g Q a:=by
 have hsz:([lo:hi]:B3s).size=hi-lo:=by simp[B1n]
 have e:∀f,forIn [lo:hi] (g f b) (body f)=forIn (B0u lo (hi-lo) 1) (g f b) (body f):=fun f=>by
  rw[A5w];show forIn (B0u lo ([lo:hi]:B3s).size 1) (g f b) (body f)=_;rw[hsz]
 simp only[e];refine ev_list (fun l b a=>∃i,lo<=i/\i<=max lo hi/\l=B0u i (max lo hi-i) 1/\I i b a) ?_ ?_ _ b a ⟨lo,A0f _,by omega,by congr 1;omega,h⟩
 ·rintro x r b a ⟨i,h1,h2,hl,hI⟩
  have hlt:i<max lo hi:=by
   rcases A4d i (max lo hi) with h'|h'
   ·exact h'
   ·rw[show max lo hi-i=0 by omega] at hl;simp at hl
  obtain⟨n,hn⟩:∃n,max lo hi-i=n+1:=⟨max lo hi-i-1,by omega⟩;rw[hn,A7z] at hl;obtain⟨rfl,rfl⟩:=List.cons.inj hl;refine a7p (step x b a h1 (by omega) hI) fun b' a' h'=>?_
  cases b' with
  | done c=>exact h'
  | yield c=>exact⟨x+1,by omega,by omega,by congr 1;omega,h'⟩
 ·rintro b a ⟨i,h1,h2,hl,hI⟩
  have:i=max lo hi:=by
   rcases A4d i (max lo hi) with h'|h'
   ·obtain⟨n,hn⟩:∃n,max lo hi-i=n+1:=⟨max lo hi-i-1,by omega⟩;rw[hn,A7z] at hl;simp at hl
   ·omega
  subst this;exact fin _ _ hI
end
def b8r:Bool->Keyed->Array Keyed->Nat->Nat->Nat->SM (Option Nat):=sortPriv% PySem.Builtin.gallop
def bey (l:Bool)(key:Keyed)(arr:Array Keyed)(i:Nat):SM (Option Bool):=
 elem' arr i >>= fun x=>if l=true then lt' x key else lt' key x >>= fun r=>pure (r.map (!·))
def gl1 (bd:Nat->SM (Option Bool))(c:Bool->Bool)(at':Nat->Nat)(n m:Nat):SM (Option (Option Nat)×Nat×Nat):=
 forIn [0:n] (none,0,1) fun _ s=>if s.2.2 ≥ m then pure (.done (none,s.2.1,s.2.2)) else
  bd (at' s.2.2) >>= fun x=>match x with
   | some r=>if c r=true then pure (.done (none,s.2.1,s.2.2)) else pure (.yield (none,s.2.2,2*s.2.2+1))
   | _=>pure (.done (some none,s.2.1,s.2.2))
def gl2 (bd:Nat->SM (Option Bool))(n lo hi:Nat):SM (Option Nat):=
 (forIn [0:n] (none,lo,hi) fun _ s=>if s.2.1 ≥ s.2.2 then pure (.done (none,s.2.1,s.2.2)) else
  bd (s.2.1+(s.2.2-s.2.1)/2) >>= fun x=>match x with
   | some r=>if r=true then pure (.yield (none,s.2.1+(s.2.2-s.2.1)/2+1,s.2.2)) else pure (.yield (none,s.2.1,s.2.1+(s.2.2-s.2.1)/2))
   | _=>pure (.done (some none,s.2.1,s.2.2)):SM (Option (Option Nat)×Nat×Nat)) >>= fun s=>match s.1 with
  | some r=>pure r
  | none=>pure (some s.2.2)
theorem gallop_own (l:Bool)(key:Keyed)(arr:Array Keyed)(b n h:Nat):b8r l key arr b n h=(bey l key arr (b+h) >>= fun x=>match x with
  | some r=>if r=true then gl1 (fun i=>bey l key arr (b+i)) (!·) (h + ·) n (n-h) >>= fun s=>(match s.1 with
     | some r=>pure r
     | none=>gl2 (fun i=>bey l key arr (b+i)) n (h+s.2.1+1) (h+min s.2.2 (n-h)))
    else gl1 (fun i=>bey l key arr (b+i)) (fun r=>r) (h - ·) n (h+1) >>= fun s=>(match s.1 with
     | some r=>pure r
     | none=>gl2 (fun i=>bey l key arr (b+i)) n (h+1-min s.2.2 (h+1)) (h-s.2.1))
  | _=>pure none):=by
 show (bey l key arr (b+h) >>= _)=_
 congr 1
 funext x
 cases x with
 | none=>rfl
 | some r=>
  cases r with
  | true=>
   show (gl1 (fun i=>bey l key arr (b+i)) (!·) (h + ·) n (n-h) >>= _)=_
   simp only[if_true]
   congr 1
   funext s
   obtain⟨r1,l,o⟩:=s
   cases r1 with
   | some v=>rfl
   | none=>
    dsimp only;unfold gl2
    congr 1
    funext s
    obtain⟨r1,l,o⟩:=s;cases r1<;>rfl
  | false=>
   show (gl1 (fun i=>bey l key arr (b+i)) (fun r=>r) (h - ·) n (h+1) >>= _)=_
   simp only[A2b,if_false]
   congr 1
   funext s
   obtain⟨r1,l,o⟩:=s
   cases r1 with
   | some v=>rfl
   | none=>
    dsimp only;unfold gl2
    congr 1
    funext s
    obtain⟨r1,l,o⟩:=s;cases r1<;>rfl
section
variable {k:Nat->Int}{α β:Type}{a:AS}{Q:β->AS->Prop}{g:Fm->β->α}
theorem c6p {z:Array Nat}(h:i<z.size):∃j,z[i]? = some j:=⟨z[i],Array.getElem?_eq_getElem h⟩
theorem ev_bey {z:Array Nat}{n:Fm->Option Bool->SM α}(hi:i<z.size)(h:∀r:Bool,Ev k (fun f=>n f (some r)) g Q a):Ev k (fun f=>bey l (f x) (z.map f) i >>= n f) g Q a:=by
 obtain⟨j,e⟩:=c6p hi;unfold bey;simp only[bind_assoc];refine ev_elem e ?_
 cases l with
 | true=>
  simp only[if_true];exact ev_lt (h _)
 | false=>
  simp only[A2b,if_false,bind_assoc,pure_bind,A2s];exact ev_lt (h _)
abbrev gid {β:Type}(_:Fm)(b:β):β:=b
theorem ev_gl1 {bd:Fm->Nat->SM (Option Bool)}{c:Bool->Bool}{at':Nat->Nat}{n m:Nat}{Q:Option (Option Nat)×Nat×Nat->AS->Prop}
  (hb:∀(o:Nat) (n:Fm->Option Bool->SM (ForInStep (Option (Option Nat)×Nat×Nat))) (Q':ForInStep (Option (Option Nat)×Nat×Nat)->AS->Prop),1<=o->o<m->(∀r:Bool,Ev k (fun f=>n f (some r)) (gs gid) Q' a)->Ev k (fun f=>bd f (at' o) >>= n f) (gs gid) Q' a)
  (h:∀s o,s<o->(s<m\/s=0)->Q (none,s,o) a):Ev k (fun f=>gl1 (bd f) c at' n m) gid Q a:=by
 unfold gl1;refine ev_for (g:=gid) (b:=(none,0,1)) (fun _ b a'=>a'=a/\b.1=none/\b.2.1<b.2.2/\(b.2.1<m\/b.2.1=0)) ?_ ?_ ⟨rfl,rfl,by decide,.inr rfl⟩
 ·rintro i ⟨b1,s,o⟩ a' _ _ ⟨rfl,rfl,h1,h2⟩;have h1:s<o:=h1;have h2:s<m\/s=0:=h2
  by_cases c1:o ≥ m
  ·simp only[if_pos c1];exact a1c (.done (none,s,o)) (fun _=>rfl) (h s o h1 h2)
  ·simp only[if_neg c1];refine hb o _ _ (by omega) (by omega) fun r=>?_;dsimp only
   by_cases c2:c r=true
   ·simp only[if_pos c2];exact a1c (.done (none,s,o)) (fun _=>rfl) (h s o h1 h2)
   ·simp only[if_neg c2];exact a1c (.yield (none,o,2*o+1)) (fun _=>rfl) ⟨rfl,rfl,by show o<2*o+1;omega,.inl (by show o<m;omega)⟩
 ·rintro⟨b1,s,o⟩ a' ⟨rfl,rfl,h1,h2⟩;exact h s o h1 h2
theorem ev_gl2 {bd:Fm->Nat->SM (Option Bool)}{n:Nat}{Q:Option Nat->AS->Prop}
  (hb:∀(i:Nat) (n:Fm->Option Bool->SM (ForInStep (Option (Option Nat)×Nat×Nat))) (Q':ForInStep (Option (Option Nat)×Nat×Nat)->AS->Prop),i<hi->(∀r:Bool,Ev k (fun f=>n f (some r)) (gs gid) Q' a)->Ev k (fun f=>bd f i >>= n f) (gs gid) Q' a)
  (h:∀v,v<=hi->Q (some v) a):Ev k (fun f=>gl2 (bd f) n lo hi) gid Q a:=by
 unfold gl2
 refine a7u (g1:=gid) (ev_for (g:=gid) (b:=(none,lo,hi)) (fun _ b a'=>a'=a/\b.1=none/\b.2.2<=hi) (Q:=fun b a'=>Ev k (fun f=>match (gid f b).1 with
  | some r=>pure r
  | none=>pure (some (gid f b).2.2)) gid Q a') ?_ ?_ ⟨rfl,rfl,A0f _⟩)
 ·rintro i ⟨b1,s,o⟩ a' _ _ ⟨rfl,rfl,h1⟩;have h1:o<=hi:=h1
  have out:Ev k (fun f=>match (gid f ((none,s,o):Option (Option Nat)×Nat×Nat)).1 with
   | some r=>pure r
   | none=>pure (some (gid f ((none,s,o):Option (Option Nat)×Nat×Nat)).2.2)) gid Q a':=a1c (some o) (fun _=>rfl) (h o h1)
  by_cases c1:s ≥ o
  ·simp only[if_pos c1];exact a1c (.done (none,s,o)) (fun _=>rfl) out
  ·simp only[if_neg c1];refine hb (s+(o-s)/2) _ _ (by omega) fun r=>?_;dsimp only
   by_cases c2:r=true
   ·simp only[if_pos c2];exact a1c (.yield (none,s+(o-s)/2+1,o)) (fun _=>rfl) ⟨rfl,rfl,h1⟩
   ·simp only[if_neg c2];exact a1c (.yield (none,s,s+(o-s)/2)) (fun _=>rfl) ⟨rfl,rfl,by show s+(o-s)/2<=hi;omega⟩
 ·rintro⟨b1,s,o⟩ a' ⟨rfl,rfl,h1⟩;exact a1c (some o) (fun _=>rfl) (h o h1)
theorem ev_gallop0 {z:Array Nat}{n:Nat}(hz:b+n<=z.size)(hh:h<n):Ev k (fun f=>b8r l (f x) (z.map f) b n h) gid (fun r a'=>a'=a/\∃v,v<=n/\r=some v) a:=by
 simp only[gallop_own];refine ev_bey (by omega) fun r=>?_
 cases r with
 | true=>
  simp only[if_true];refine a7u (a7p (ev_gl1 (Q:=fun r a'=>a'=a/\∃s o,r=(none,s,o)/\s<o/\(s<n-h\/s=0)) (bd:=fun f i=>bey l (f x) (z.map f) (b+i)) (fun o n Q' h1 h2 h3=>ev_bey (by omega) h3) fun s o h1 h2=>⟨rfl,s,o,rfl,h1,h2⟩) ?_);rintro r a' ⟨rfl,s,o,rfl,h1,h2⟩;show Ev k (fun f=>gl2 (fun i=>bey l (f x) (z.map f) (b+i)) n (h+s+1) (h+min o (n-h))) gid _ _;exact ev_gl2 (bd:=fun f i=>bey l (f x) (z.map f) (b+i)) (fun i n Q' h1 h3=>ev_bey (by omega) h3) (fun v hv=>⟨rfl,v,by omega,rfl⟩)
 | false=>
  simp only[A2b,if_false];refine a7u (a7p (ev_gl1 (Q:=fun r a'=>a'=a/\∃s o,r=(none,s,o)/\s<o/\(s<h+1\/s=0)) (bd:=fun f i=>bey l (f x) (z.map f) (b+i)) (fun o n Q' h1 h2 h3=>ev_bey (by omega) h3) fun s o h1 h2=>⟨rfl,s,o,rfl,h1,h2⟩) ?_);rintro r a' ⟨rfl,s,o,rfl,h1,h2⟩;show Ev k (fun f=>gl2 (fun i=>bey l (f x) (z.map f) (b+i)) n (h+1-min o (h+1)) (h-s)) gid _ _;exact ev_gl2 (bd:=fun f i=>bey l (f x) (z.map f) (b+i)) (fun i n Q' h1 h3=>ev_bey (by omega) h3) (fun v hv=>⟨rfl,v,by omega,rfl⟩)
theorem b2t {z:Array Nat}{n:Nat}{c:Fm->Option Nat->SM α}(hz:b+n<=z.size)(hh:h<n)(q:∀v,v<=n->Ev k (fun f=>c f (some v)) g Q a):Ev k (fun f=>b8r l (f x) (z.map f) b n h >>= c f) g Q a:=by
 refine a7u (a7p (ev_gallop0 (a:=a) hz hh) ?_);rintro r a' ⟨rfl,v,hv,rfl⟩;exact q v hv
theorem swap_map {X Y:Type}(f:X->Y)(xs:Array X)(i j:Nat):(xs.swapIfInBounds i j).map f=(xs.map f).swapIfInBounds i j:=by
 rw[B0k,B0k]
 by_cases hi:i<xs.size
 ·by_cases hj:j<xs.size
  ·rw[dif_pos hi,dif_pos hj,dif_pos (by rw[A2p];exact hi),dif_pos (by rw[A2p];exact hj)];apply Array.ext_getElem?;intro m;simp only[Array.getElem?_map,Array.getElem?_swap,Array.getElem_map]
   split<;>(try split)<;>simp_all
  ·rw[dif_pos hi,dif_neg hj,dif_pos (by rw[A2p];exact hi),dif_neg (by rw[A2p];exact hj)]
 ·rw[dif_neg hi,dif_neg (by rw[A2p];exact hi)]
theorem c8b {X Y Z:Type}(f:X->Y)(p q:Z->Nat):∀(l:List Z) (xs:Array X),(l.foldl (fun a k=>a.swapIfInBounds (p k) (q k)) xs).map f=l.foldl (fun a k=>a.swapIfInBounds (p k) (q k)) (xs.map f)
 | [],_=>rfl
 | c::l,xs=>by
  rw[A7c,A7c,c8b f p q l,swap_map]
theorem ev_rev {n:Fm->Unit->SM α}(h:Ev k (fun f=>n f ()) g Q { a with z:=mirror a.z i j ((j-i)/2) }):Ev k (fun f=>reverseSlice' i j >>= n f) g Q a:=by
 simp only[reverseSlice'_eq];refine b5s { a with z:=mirror a.z i j ((j-i)/2) } (fun f=>?_) h;show A6s _ _ _ _ _=A6s _ _ _ _ _
 congr 1
 exact(c8b f _ _ _ _).symm
theorem ev_down {n:Fm->Unit->SM α}(h:Ev k (fun f=>n f ()) g Q { a with z:=bubble a.z i (i-j) }):Ev k (fun f=>moveDown' i j >>= n f) g Q a:=by
 simp only[moveDown'_eq];refine b5s { a with z:=bubble a.z i (i-j) } (fun f=>?_) h;show A6s _ _ _ _ _=A6s _ _ _ _ _
 congr 1
 exact(c8b f _ _ _ _).symm
def Lk (a a':AS):Prop:=a'.z.size=a.z.size/\a'.p=a.p/\a'.g=a.g
theorem Lk.refl (a:AS):Lk a a:=⟨rfl,rfl,rfl⟩
theorem d3e {b:AS}{n:Fm->Option Bool->SM α}(hb:Lk b a)(hi:i<b.z.size)(hj:j<b.z.size)(h:∀r:Bool,Ev k (fun f=>n f (some r)) g Q a):Ev k (fun f=>ltAt' i j >>= n f) g Q a:=by
 obtain⟨x,e1⟩:=c6p (z:=a.z) (i:=i) (by rw[hb.1];exact hi);obtain⟨y,e2⟩:=c6p (z:=a.z) (i:=j) (by rw[hb.1];exact hj);exact ev_ltAt e1 e2 (h _)
theorem ev_loop {σ:Type}{body:Fm->Nat->σ->SM (ForInStep σ)}{c:Fm->σ->SM α}{b:σ}(I:Nat->σ->AS->Prop)
  (step:∀i b a,lo<=i->i<hi->I i b a->Ev k (fun f=>body f i b) (gs gid) (fun r' a'=>match r' with|.done b'=>Ev k (fun f=>c f b') g Q a'|.yield b'=>I (i+1) b' a') a)
  (fin:∀b a,I (max lo hi) b a->Ev k (fun f=>c f b) g Q a) (h:I lo b a):Ev k (fun f=>forIn [lo:hi] b (body f) >>= c f) g Q a:=
 a7u (g1:=gid) (ev_for (g:=gid) I step fin h)
theorem ev_binary {n ok:Nat}(hz:lo+n<=a.z.size):Ev k (fun _=>binarySort' lo n ok) gid (fun r a'=>r=true/\Lk a a') a:=by
 simp only[binarySort'_eq];refine ev_loop (fun _ b a'=>b=(none,())/\Lk a a') ?_ ?_ ⟨rfl,Lk.refl a⟩
 ·rintro i b a' h1 h2 ⟨rfl,hL⟩;refine ev_loop (fun _ b a1=>a1=a'/\∃l r,b=(none,l,r)/\r<=i) ?_ ?_ ⟨rfl,0,i,rfl,A0f _⟩
  ·rintro j b a1 h3 h4 ⟨rfl,l,r,rfl,h5⟩
   by_cases c1:l ≥ r
   ·simp only[if_pos c1];exact a1c (.done (none,l,r)) (fun _=>rfl) (ev_down (a1c (.yield (none,())) (fun _=>rfl) ⟨rfl,by rw[<- hL.1];exact bubble_size _ _ _,hL.2⟩))
   ·simp only[if_neg c1];refine d3e hL (by omega) (by omega) fun d=>?_
    cases d with
    | true=>exact a1c (.yield (none,l,(l+r)/2)) (fun _=>rfl) ⟨rfl,_,_,rfl,by omega⟩
    | false=>exact a1c (.yield (none,(l+r)/2+1,r)) (fun _=>rfl) ⟨rfl,_,_,rfl,h5⟩
  ·rintro b a1 ⟨rfl,l,r,rfl,h5⟩;exact ev_down (a1c (.yield (none,())) (fun _=>rfl) ⟨rfl,by rw[<- hL.1];exact bubble_size _ _ _,hL.2⟩)
 ·rintro b a' ⟨rfl,hL⟩;exact a1c true (fun _=>rfl) ⟨rfl,hL⟩
theorem Lk.rev {b a:AS}(h:Lk b a)(i j d:Nat):Lk b { a with z:=mirror a.z i j d }:=⟨by rw[<- h.1];exact mirror_size _ _ _ _,h.2⟩
theorem d5v {σ:Type}{body:Fm->Nat->σ->SM (ForInStep σ)}{c:Fm->σ->SM α}{b:σ}(I Q1:Nat->σ->AS->Prop)
  (step:∀i b a,lo<=i->i<hi->I i b a->Ev k (fun f=>body f i b) (gs gid) (fun r' a'=>match r' with|.done b'=>Q1 i b' a'|.yield b'=>I (i+1) b' a') a)
  (fin:∀b a,I (max lo hi) b a->Q1 (max lo hi) b a) (h:I lo b a) (next:∀i b a',Q1 i b a'->Ev k (fun f=>c f b) g Q a'):Ev k (fun f=>forIn [lo:hi] b (body f) >>= c f) g Q a:=by
 refine a7u (g1:=gid) (a7p (ev_for (g:=gid) I (Q:=fun b a'=>∃i,Q1 i b a') ?_ (fun b a h=>⟨_,fin b a h⟩) h) fun b a' ⟨i,h⟩=>next i b a' h);intro i b a h1 h2 h3;refine a7p (step i b a h1 h2 h3) fun r a' hr=>?_
 cases r with
 | done b'=>exact⟨i,hr⟩
 | yield b'=>exact hr
theorem joinE {T:AS->Prop}{b:AS}{G:Prop}(h1:(∀a,Lk b a->T a)->G)(h2:∀a,Lk b a->T a):G:=h1 h2
theorem ev_count {nrem:Nat}(hz:lo+nrem<=a.z.size)(h1:1<=nrem):Ev k (fun _=>countRun' lo nrem) gid (fun r a'=>∃m,r=some m/\1<=m/\m<=nrem/\Lk a a') a:=by
 simp only[countRun'_eq];refine d5v (fun i b a'=>b=(none,i)/\Lk a a') (fun i b a'=>b=(none,i)/\1<=i/\i<=nrem/\Lk a a') ?_ ?_ ⟨rfl,Lk.refl a⟩ ?_
 ·rintro i b a' h2 h3 ⟨rfl,hL⟩;refine d3e hL (by omega) (by omega) fun d=>?_
  cases d with
  | true=>exact a1c (.done (none,i)) (fun _=>rfl) ⟨rfl,by omega,by omega,hL⟩
  | false=>exact a1c (.yield (none,i+1)) (fun _=>rfl) ⟨rfl,hL⟩
 ·rintro b a' ⟨rfl,hL⟩;exact⟨rfl,by omega,by omega,hL⟩
 rintro i b a' ⟨rfl,h2,h3,hL⟩;dsimp only
 by_cases c1:i=nrem
 ·simp only[c1,beq_self_eq_true,if_true];exact a1c (some nrem) (fun _=>rfl) ⟨_,rfl,h1,A0f _,hL⟩
 simp only[show (i==nrem)=false from by simpa using c1,A2b,if_false];apply joinE (b:=a)
 case h1=>
  intro key
  by_cases c2:i>1
  ·simp only[if_pos c2];refine d3e hL (by omega) (by omega) fun d=>?_
   cases d with
   | true=>exact a1c (some i) (fun _=>rfl) ⟨_,rfl,h2,h3,hL⟩
   | false=>
    refine ev_rev ?_;have hL:=hL.rev lo (lo+i) ((lo+i-lo)/2);generalize ({ a' with z:=mirror a'.z lo (lo+i) ((lo+i-lo)/2) }:AS)=a1 at hL ⊢;exact key a1 hL
  ·simp only[if_neg c2];generalize a'=a1 at hL ⊢;exact key a1 hL
 case h2=>
  clear hL a';intro a' hL;refine c1y (d5v (fun m b a'=>∃q,b=(none,m,q)/\Lk a a') (fun m b a'=>∃q,b=(none,m,q)/\1<=m/\m<=nrem/\Lk a a') ?_ ?_ ⟨0,rfl,hL⟩ ?_)
  ·rintro m b a' h4 h5 ⟨q,rfl,hL⟩;refine d3e hL (show lo+m<_ by omega) (show lo+m-1<_ by omega) fun d=>?_
   cases d with
   | true=>
    dsimp only;simp only[if_true]
    by_cases c3:q>0
    ·simp only[if_pos c3];exact ev_rev (a1c (.yield (none,m+1,0)) (fun _=>rfl) ⟨0,rfl,hL.rev _ _ _⟩)
    ·simp only[if_neg c3];exact a1c (.yield (none,m+1,0)) (fun _=>rfl) ⟨0,rfl,hL⟩
   | false=>
    dsimp only;simp only[A2b,if_false];refine d3e hL (by omega) (by omega) fun d=>?_
    cases d with
    | true=>exact a1c (.done (none,m,q)) (fun _=>rfl) ⟨q,rfl,by omega,by omega,hL⟩
    | false=>exact a1c (.yield (none,m+1,q+1)) (fun _=>rfl) ⟨q+1,rfl,hL⟩
  ·rintro b a' ⟨q,rfl,hL⟩;exact⟨q,rfl,by omega,by omega,hL⟩
  rintro m b a' ⟨q,rfl,h4,h5,hL⟩;dsimp only;apply joinE (b:=a)
  case h1=>
   intro key
   by_cases c3:q>0
   ·simp only[if_pos c3];refine ev_rev ?_;have hL:=hL.rev (lo+m-(q+1)) (lo+m) ((lo+m-(lo+m-(q+1)))/2);generalize ({ a' with z:=mirror a'.z (lo+m-(q+1)) (lo+m) ((lo+m-(lo+m-(q+1)))/2) }:AS)=a1 at hL ⊢;exact key a1 hL
   ·simp only[if_neg c3];generalize a'=a1 at hL ⊢;exact key a1 hL
  case h2=>
   clear hL a';intro a' hL;refine ev_rev (d5v (fun i b a'=>b=(none,i)/\Lk a a') (fun i b a'=>b=(none,i)/\1<=i/\i<=nrem/\Lk a a') ?_ ?_ ⟨rfl,hL.rev _ _ _⟩ ?_)
   ·rintro i b a' h2 h3 ⟨rfl,hL⟩;refine d3e hL (by omega) (by omega) fun d=>?_
    cases d with
    | true=>exact a1c (.done (none,i)) (fun _=>rfl) ⟨rfl,by omega,by omega,hL⟩
    | false=>exact a1c (.yield (none,i+1)) (fun _=>rfl) ⟨rfl,hL⟩
   ·rintro b a' ⟨rfl,hL⟩;exact⟨rfl,by omega,by omega,hL⟩
   rintro i b a' ⟨rfl,h2,h3,hL⟩;exact a1c (some i) (fun _=>rfl) ⟨_,rfl,h2,h3,hL⟩
theorem a9e {σ τ:Type}{X:Fm->σ}{body:Fm->Nat->σ->SM (ForInStep σ)}{c:Fm->σ->SM α}(G:Fm->τ->σ)(t:τ)(e0:∀f,X f=G f t)(I:Nat->τ->AS->Prop)(Q1:τ->AS->Prop)
  (step:∀i b a,lo<=i->i<hi->I i b a->Ev k (fun f=>body f i (G f b)) (gs G) (fun r' a'=>match r' with|.done b'=>Q1 b' a'|.yield b'=>I (i+1) b' a') a)
  (fin:∀b a,I (max lo hi) b a->Q1 b a) (h:I lo t a) (next:∀b a',Q1 b a'->Ev k (fun f=>c f (G f b)) g Q a'):Ev k (fun f=>forIn [lo:hi] (X f) (body f) >>= c f) g Q a:=by
 simp only[e0];exact a7u (g1:=G) (a7p (ev_for (g:=G) I step fin h) next)
theorem a2n {z:Array Nat}{n:Fm->Keyed->SM α}(hi:i<z.size)(h:∀j,Ev k (fun f=>n f (f j)) g Q a):Ev k (fun f=>elem' (z.map f) i >>= n f) g Q a:=
 (c6p hi).elim fun j e=>ev_elem e (h j)
theorem ev_ltB {n:Fm->Option Bool->SM α}(h:∀d:Bool,Ev k (fun f=>n f (some d)) g Q a):Ev k (fun f=>lt' (f i) (f j) >>= n f) g Q a:=ev_lt (h _)
theorem b1b {p:Prop}{D:Fm->Decidable p}{A B:Fm->SM α}(h1:p->Ev k A g Q a)(h2:¬p->Ev k B g Q a):Ev k (fun f=>@ite _ p (D f) (A f) (B f)) g Q a:=by
 by_cases c:p
 ·simp only[if_pos c];exact h1 c
 ·simp only[if_neg c];exact h2 c
theorem a6h {u v:Nat}{D:Fm->Decidable ((u==v)=true)}{A B:Fm->SM α}(h1:u=v->Ev k A g Q a)(h2:u≠v->Ev k B g Q a):Ev k (fun f=>@ite _ ((u==v)=true) (D f) (A f) (B f)) g Q a:=
 b1b (fun c=>h1 (by simpa using c)) (fun c=>h2 (by simpa using c))
abbrev gm (f:Fm)(r:Array Nat):Array Keyed:=r.map f
abbrev g4 {τ:Type}(f:Fm)(b:Option (Array Nat)×Array Nat×τ):Option (Array Keyed)×Array Keyed×τ:=(b.1.map (B3a f),b.2.1.map f,b.2.2)
abbrev g5 {σ τ υ:Type}(f:Fm)(b:Option (Array Nat)×σ×τ×Array Nat×υ):Option (Array Keyed)×σ×τ×Array Keyed×υ:=(b.1.map (B3a f),b.2.1,b.2.2.1,b.2.2.2.1.map f,b.2.2.2.2)
section
variable {τ:Type}{q:ForInStep (Option (Array Nat)×Array Nat×τ)->AS->Prop}{o r:Array Nat}{t:τ}
theorem lo_s (h:q (.done (some r,o,t)) a):Ev k (fun f=>pure (.done (some (r.map f),o.map f,t))) (gs g4) q a:=a1c _ (fun _=>rfl) h
theorem lo_d (h:q (.done (none,o,t)) a):Ev k (fun f=>pure (.done (none,o.map f,t))) (gs g4) q a:=a1c _ (fun _=>rfl) h
theorem lo_y (h:q (.yield (none,o,t)) a):Ev k (fun f=>pure (.yield (none,o.map f,t))) (gs g4) q a:=a1c _ (fun _=>rfl) h
end
section
variable {σ τ υ:Type}{q:ForInStep (Option (Array Nat)×σ×τ×Array Nat×υ)->AS->Prop}{o r:Array Nat}{t:υ}{m:σ}{n:τ}
theorem hi_s (h:q (.done (some r,m,n,o,t)) a):Ev k (fun f=>pure (.done (some (r.map f),m,n,o.map f,t))) (gs g5) q a:=a1c _ (fun _=>rfl) h
theorem hi_d (h:q (.done (none,m,n,o,t)) a):Ev k (fun f=>pure (.done (none,m,n,o.map f,t))) (gs g5) q a:=a1c _ (fun _=>rfl) h
theorem hi_y (h:q (.yield (none,m,n,o,t)) a):Ev k (fun f=>pure (.yield (none,m,n,o.map f,t))) (gs g5) q a:=a1c _ (fun _=>rfl) h
end
def mergeLo':Array Keyed->Array Keyed->SM (Array Keyed):=sortPriv% PySem.Builtin.mergeLo
def mergeHi':Array Keyed->Array Keyed->SM (Array Keyed):=sortPriv% PySem.Builtin.mergeHi
end
abbrev T1:=Option (Array Keyed)×Array Keyed×Nat×Nat×Nat
abbrev T2:=Option (Array Keyed)×Array Keyed×Nat×Nat×Nat×Nat
abbrev T3:=Option (Array Keyed)×Array Keyed×Nat×Nat×Nat×Nat×Nat
abbrev U1:=Option (Array Keyed)×Nat×Nat×Array Keyed×Nat
abbrev U2:=Option (Array Keyed)×Nat×Nat×Array Keyed×Nat×Nat
abbrev U3:=Option (Array Keyed)×Nat×Nat×Array Keyed×Nat×Nat×Nat
noncomputable def setG:Nat->SM Unit:=sortPriv% PySem.Builtin.setMinGallop
section
variable (x y:Array Keyed)
noncomputable def lE (o:Array Keyed)(i j:Nat):Array Keyed:=o++x.extract i x.size++y.extract j y.size
noncomputable def lF (o:Array Keyed)(i j:Nat):Array Keyed:=o++y.extract j y.size++x.extract i x.size
noncomputable def l6 (o:Array Keyed)(i j m c d:Nat):SM (ForInStep T3):=elem' x i >>= fun e=>if (i+1+1==x.size)=true then pure (.done (some (lF x y (o.push e) (i+1) j),o.push e,i+1,j,m,c,d)) else
 if (decide (c<7)&&decide (d<7))=true then pure (.done (none,o.push e,i+1,j,m,c,d)) else pure (.yield (none,o.push e,i+1,j,m,c,d))
noncomputable def l5 (o:Array Keyed)(i j m c d:Nat):SM (ForInStep T3):=elem' y j >>= fun e=>if (j+1==y.size)=true then pure (.done (some (lE x y (o.push e) i (j+1)),o.push e,i,j+1,m,c,d)) else
 elem' x i >>= fun v=>b8r true v y (j+1) (y.size-(j+1)) 0 >>= fun r=>match r with
 | some k=>if k>0 then (if (j+1+k==y.size)=true then pure (.done (some (lE x y (o.push e++y.extract (j+1) (j+1+k)) i (j+1+k)),o.push e++y.extract (j+1) (j+1+k),i,j+1+k,m,c,k)) else
   l6 x y (o.push e++y.extract (j+1) (j+1+k)) i (j+1+k) m c k) else l6 x y (o.push e) i (j+1) m c k
 | _=>pure (.done (some (lE x y (o.push e) i (j+1)),o.push e,i,j+1,m,c,d))
noncomputable def l3 (o:Array Keyed)(i j m c d:Nat):SM (ForInStep T3):=setG m >>= fun _=>elem' y j >>= fun e=>b8r false e x i (x.size-i) 0 >>= fun r=>match r with
 | some k=>if k>0 then (if (i+k+1==x.size)=true then pure (.done (some (lF x y (o++x.extract i (i+k)) (i+k) j),o++x.extract i (i+k),i+k,j,m,k,d)) else
   if (i+k==x.size)=true then pure (.done (some (lE x y (o++x.extract i (i+k)) (i+k) j),o++x.extract i (i+k),i+k,j,m,k,d)) else l5 x y (o++x.extract i (i+k)) (i+k) j m k d) else l5 x y o i j m k d
 | _=>pure (.done (some (lE x y o i j),o,i,j,m,c,d))
noncomputable def l2:T3->SM (ForInStep T3):=fun (_,o,i,j,m,c,d)=>if m>1 then l3 x y o i j (m-1) c d else l3 x y o i j m c d
noncomputable def l1 (m:Nat):T2->SM (ForInStep T2):=fun (_,o,i,j,c,d)=>elem' y j >>= fun u=>elem' x i >>= fun v=>lt' u v >>= fun r=>match r with
 | some b=>if b=true then elem' y j >>= fun e=>if (j+1==y.size)=true then pure (.done (some (lE x y (o.push e) i (j+1)),o.push e,i,j+1,0,d+1)) else
    if d+1 ≥ m then pure (.done (none,o.push e,i,j+1,0,d+1)) else pure (.yield (none,o.push e,i,j+1,0,d+1))
   else elem' x i >>= fun e=>if (i+1+1==x.size)=true then pure (.done (some (lF x y (o.push e) (i+1) j),o.push e,i+1,j,c+1,0)) else
    if c+1 ≥ m then pure (.done (none,o.push e,i+1,j,c+1,0)) else pure (.yield (none,o.push e,i+1,j,c+1,0))
 | _=>pure (.done (some (lE x y o i j),o,i,j,c,d))
noncomputable def l4 (s:T1):SM (ForInStep T1):=(forIn [0:x.size+y.size] (none,s.2.1,s.2.2.1,s.2.2.2.1,0,0) (fun _ t=>l1 x y s.2.2.2.2 t):SM T2) >>= fun t=>match t.1 with
 | some r=>pure (.done (some r,t.2.1,t.2.2.1,t.2.2.2.1,s.2.2.2.2))
 | none=>liftM (rule "list.sort.gallop") >>= fun _=>(forIn [0:x.size+y.size] (none,t.2.1,t.2.2.1,t.2.2.2.1,s.2.2.2.2+1,t.2.2.2.2.1,t.2.2.2.2.2) (fun _ u=>l2 x y u):SM T3) >>= fun u=>match u.1 with
  | some r=>pure (.done (some r,u.2.1,u.2.2.1,u.2.2.2.1,u.2.2.2.2.1))
  | none=>setG (u.2.2.2.2.1+1) >>= fun _=>pure (.yield (none,u.2.1,u.2.2.1,u.2.2.2.1,u.2.2.2.2.1+1))
end
theorem lo_own (x y:Array Keyed):mergeLo' x y=(liftM (rule "list.sort.merge-lo") >>= fun _=>elem' y 0 >>= fun e=>if (1==y.size)=true then pure (lE x y #[e] 0 1) else if (0+1==x.size)=true then pure (lF x y #[e] 0 1) else
 get >>= fun st=>(forIn [0:x.size+y.size] (none,#[e],0,1,gallopOf st) (fun _ s=>l4 x y s):SM T1) >>= fun s=>match s.1 with|some r=>pure r|none=>liftM (unsupported "internal:list.sort.merge-bound")):=by
 show (liftM (rule _) >>= _)=_
 congr 1
 funext _
 show (elem' y 0 >>= _)=_
 congr 1
 funext e
 show (if (1==y.size)=true then pure (lE x y #[e] 0 1) else if (0+1==x.size)=true then pure (lF x y #[e] 0 1) else get >>= _)=_
 congr 3
 funext st
 show ((forIn [0:x.size+y.size] (none,#[e],0,1,gallopOf st) _:SM T1) >>= _)=_
 congr 1
 ·congr 1
  funext i s
  show ((forIn [0:x.size+y.size] (none,s.2.1,s.2.2.1,s.2.2.2.1,0,0) _:SM T2) >>= _)=_;unfold l4
  congr 1
  ·funext t
   obtain⟨t1,t⟩:=t
   cases t1 with
   | some r=>rfl
   | none=>
    show (liftM (rule _) >>= _)=_;dsimp only
    congr 1
    funext _
    show ((forIn [0:x.size+y.size] (none,t.1,t.2.1,t.2.2.1,s.2.2.2.2+1,t.2.2.2.1,t.2.2.2.2) _:SM T3) >>= _)=_
    congr 1
    ·funext u
     obtain⟨u1,u⟩:=u
     cases u1 with
     | some r=>rfl
     | none=>rfl
 ·funext s
  obtain⟨s1,s⟩:=s;cases s1<;>rfl
def Zp (a a':AS):Prop:=a'.z=a.z/\a'.p=a.p
local macro_rules|`(tactic| fail"ma")=>`(tactic| simp only[<- Array.map_append,<- Array.map_extract,<- Array.map_push,<- Array.map_reverse])
section
variable {k:Nat->Int}{a a':AS}{x y o:Array Nat}{i j m c d:Nat}{M:Nat->Nat->Prop}{τ:Type}
structure Cl (M:Nat->Nat->Prop)(a:AS)(Q:ForInStep (Option (Array Nat)×Array Nat×Nat×Nat×τ)->AS->Prop):Prop where
 s:∀r o t a',Zp a a'->Q (.done (some r,o,t)) a'
 n:∀o i j t a',Zp a a'->M i j->Q (.done (none,o,i,j,t)) a'/\Q (.yield (none,o,i,j,t)) a'
theorem ev_l1 {Q:ForInStep (Option (Array Nat)×Array Nat×Nat×Nat×Nat×Nat)->AS->Prop}(C:Cl M a Q)(hz:Zp a a')(h1:i<x.size)(h2:j<y.size)(hA:j+1≠y.size->M i (j+1))(hB:i+1+1≠x.size->M (i+1) j):Ev k (fun f=>l1 (x.map f) (y.map f) m (none,o.map f,i,j,c,d)) (gs g4) Q a':=by
 unfold l1 lE lF;simp only[A2p];refine a2n h2 fun _=>a2n h1 fun _=>ev_ltB fun b=>?_;dsimp only;refine b1b (fun _=>a2n h2 fun _=>?_) fun _=>a2n h1 fun _=>?_<;>fail"ma"
 ·exact a6h (fun _=>lo_s (C.s _ _ _ _ hz)) fun c=>b1b (fun _=>lo_d (C.n _ _ _ _ _ hz (hA c)).1) fun _=>lo_y (C.n _ _ _ _ _ hz (hA c)).2
 ·exact a6h (fun _=>lo_s (C.s _ _ _ _ hz)) fun c=>b1b (fun _=>lo_d (C.n _ _ _ _ _ hz (hB c)).1) fun _=>lo_y (C.n _ _ _ _ _ hz (hB c)).2
variable {Q:ForInStep (Option (Array Nat)×Array Nat×Nat×Nat×Nat×Nat×Nat)->AS->Prop}
theorem ev_l6 (C:Cl M a Q)(hz:Zp a a')(h1:i<x.size)(h2:i+1+1≠x.size->M (i+1) j):Ev k (fun f=>l6 (x.map f) (y.map f) (o.map f) i j m c d) (gs g4) Q a':=by
 unfold l6 lF;simp only[A2p];refine a2n h1 fun _=>?_;fail"ma";exact a6h (fun _=>lo_s (C.s _ _ _ _ hz)) fun c=>b1b (fun _=>lo_d (C.n _ _ _ _ _ hz (h2 c)).1) fun _=>lo_y (C.n _ _ _ _ _ hz (h2 c)).2
theorem ev_l5 (C:Cl M a Q)(hz:Zp a a')(h1:i<x.size)(h2:j<y.size)(h3:∀n,j+1<=n->n<y.size->i+1+1≠x.size->M (i+1) n):Ev k (fun f=>l5 (x.map f) (y.map f) (o.map f) i j m c d) (gs g4) Q a':=by
 unfold l5 lE;simp only[A2p];refine a2n h2 fun _=>?_;fail"ma";refine a6h (fun _=>lo_s (C.s _ _ _ _ hz)) fun c1=>a2n h1 fun _=>b2t (by omega) (by omega) fun v hv=>?_;dsimp only;exact b1b (fun _=>a6h (fun _=>lo_s (C.s _ _ _ _ hz)) fun c2=>ev_l6 C hz h1 (h3 _ (by omega) (by omega))) fun _=>ev_l6 C hz h1 (h3 _ (by omega) (by omega))
theorem ev_l3 (C:Cl M a Q)(hz:Zp a a')(h1:i+1<x.size)(h2:j<y.size)(h3:∀i' n,i<=i'->j+1<=n->i'+1<x.size->n<y.size->i'+1+1≠x.size->M (i'+1) n):Ev k (fun f=>l3 (x.map f) (y.map f) (o.map f) i j m c d) (gs g4) Q a':=by
 unfold l3 lE lF;simp only[A2p];refine b5s { a' with g:=m } (fun f=>rfl) (a2n h2 fun _=>b2t (by omega) (by omega) fun v hv=>?_)
 replace hz:Zp a { a' with g:=m }:=hz
 dsimp only;fail"ma";exact b1b (fun _=>a6h (fun _=>lo_s (C.s _ _ _ _ hz)) fun c2=>a6h (fun _=>lo_s (C.s _ _ _ _ hz)) fun c3=>ev_l5 C hz (by omega) h2 fun n h h'=>h3 _ n (by omega) h (by omega) h') fun _=>ev_l5 C hz (by omega) h2 fun n h h'=>h3 _ n (A0f _) h h1 h'
theorem ev_mergeLo (hx:0<x.size)(hy:0<y.size):Ev k (fun f=>mergeLo' (x.map f) (y.map f)) gm (fun r a'=>Zp a a') a:=by
 simp only[lo_own];refine c1y (a2n hy fun j0=>?_);have e0:∀f:Fm,#[f j0]=B3a f #[j0]:=fun f=>by simp
 simp only[e0,A2p,lE,lF];fail"ma";refine a6h (fun _=>a1c _ (fun _=>rfl) ⟨rfl,rfl⟩) fun c1=>a6h (fun _=>a1c _ (fun _=>rfl) ⟨rfl,rfl⟩) fun c2=>c3a ?_;refine a9e g4 (none,#[j0],0,1,a.g) (fun f=>rfl) (fun i b a'=>Zp a a'/\b.1=none/\b.2.2.1+1<x.size/\b.2.2.2.1<y.size/\i+1<=b.2.2.1+b.2.2.2.1) (fun b a'=>Zp a a'/\b.1≠none) ?_ (fun b a' h=>absurd h.2.2 (by omega)) ⟨⟨rfl,rfl⟩,rfl,by dsimp only;omega⟩ ?_
 ·rintro i ⟨_,o,ia,ib,mg⟩ a' _ hi ⟨hz,rfl,hm⟩;dsimp only at hm;unfold l4;simp only[A2p];refine a9e g4 (none,o,ia,ib,0,0) (fun f=>rfl) (fun j b a'=>Zp a a'/\b.1=none/\b.2.2.1+1<x.size/\b.2.2.2.1<y.size/\i+1+j<=b.2.2.1+b.2.2.2.1) (fun b a'=>Zp a a'/\(b.1=none->b.2.2.1+1<x.size/\b.2.2.2.1<y.size/\i+2<=b.2.2.1+b.2.2.2.1)) ?_ (fun b a' h=>⟨h.1,fun _=>⟨h.2.2.1,h.2.2.2.1,A0y (by omega) h.2.2.2.2⟩⟩) ⟨hz,rfl,hm⟩ ?_
  ·rintro j ⟨_,o,p,q,c,d⟩ a' _ hj ⟨hz,rfl,hm⟩;dsimp only at hm;exact ev_l1 (M:=fun p q=>p+1<x.size/\q<y.size/\i+1+(j+1)<=p+q) ⟨fun _ _ _ _ h=>⟨h,fun e=>nomatch e⟩,fun _ _ _ _ _ h m=>⟨⟨h,fun _=>⟨m.1,m.2.1,A0y (by omega) m.2.2⟩⟩,h,rfl,m⟩⟩ hz (by omega) hm.2.1 (by omega) (by omega)
  ·rintro⟨b1,o,p,q,c,d⟩ a' ⟨hz,hm⟩
   cases b1 with
   | some r=>
    dsimp only[g4,A2s];exact lo_s ⟨hz,fun e=>nomatch e⟩
   | none=>
   replace hm:=hm rfl
   dsimp only at hm;refine c1y (a9e g4 (none,o,p,q,mg+1,c,d) (fun f=>rfl) (fun j b a'=>Zp a a'/\b.1=none/\b.2.2.1+1<x.size/\b.2.2.2.1<y.size/\i+2+j<=b.2.2.1+b.2.2.2.1) (fun b a'=>Zp a a'/\(b.1=none->b.2.2.1+1<x.size/\b.2.2.2.1<y.size/\i+2<=b.2.2.1+b.2.2.2.1)) ?_ (fun b a' h=>⟨h.1,fun _=>⟨h.2.2.1,h.2.2.2.1,A0y (by omega) h.2.2.2.2⟩⟩) ⟨hz,rfl,hm⟩ ?_)
   ·rintro j ⟨_,o,p,q,m,c,d⟩ a' _ hj ⟨hz,rfl,hm⟩;dsimp only at hm;show Ev k (fun f=>if m>1 then l3 (x.map f) (y.map f) (o.map f) p q (m-1) c d else l3 (x.map f) (y.map f) (o.map f) p q m c d) _ _ _;have h3:∀i' n,p<=i'->q+1<=n->i'+1<x.size->n<y.size->i'+1+1≠x.size->i'+1+1<x.size/\n<y.size/\i+2+(j+1)<=i'+1+n:=by omega
    refine b1b (fun _=>?_) (fun _=>?_)<;>exact ev_l3 (M:=fun p q=>p+1<x.size/\q<y.size/\i+2+(j+1)<=p+q) ⟨fun _ _ _ _ h=>⟨h,fun e=>nomatch e⟩,fun _ _ _ _ _ h m=>⟨⟨h,fun _=>⟨m.1,m.2.1,A0y (by omega) m.2.2⟩⟩,h,rfl,m⟩⟩ hz hm.1 hm.2.1 h3
   ·rintro⟨b1,o,p,q,m,c,d⟩ a' ⟨hz,hm⟩
    cases b1 with
    | some r=>
     dsimp only[g4,A2s];exact lo_s ⟨hz,fun e=>nomatch e⟩
    | none=>
     dsimp only[g4,Option.map_none];refine b5s { a' with g:=m+1 } (fun f=>rfl) (lo_y ?_);exact⟨hz,rfl,hm rfl⟩
 ·rintro⟨b1,o,p⟩ a' ⟨hz,hm⟩
  cases b1 with
  | none=>exact absurd rfl hm
  | some r=>exact a1c r (fun f=>rfl) hz
end
section
variable (x y:Array Keyed)
noncomputable def hE (o:Array Keyed)(i j:Nat):Array Keyed:=x.extract 0 i++y.extract 0 j++o.reverse
noncomputable def hF (o:Array Keyed)(i j:Nat):Array Keyed:=y.extract 0 j++x.extract 0 i++o.reverse
noncomputable def h6 (i j:Nat)(o:Array Keyed)(m c d:Nat):SM (ForInStep U3):=elem' x (i-1) >>= fun e=>if (i-1==0)=true then pure (.done (some (hE x y (o.push e) (i-1) j),i-1,j,o.push e,m,c,d)) else
 if (decide (c<7)&&decide (d<7))=true then pure (.done (none,i-1,j,o.push e,m,c,d)) else pure (.yield (none,i-1,j,o.push e,m,c,d))
noncomputable def h5 (i j:Nat)(o:Array Keyed)(m c d:Nat):SM (ForInStep U3):=elem' y (j-1) >>= fun e=>if (j-1==1)=true then pure (.done (some (hF x y (o.push e) i (j-1)),i,j-1,o.push e,m,c,d)) else
 elem' x (i-1) >>= fun v=>b8r true v y 0 (j-1) (j-1-1) >>= fun r=>match r with
 | some k=>if j-1-k>0 then (if (k==1)=true then pure (.done (some (hF x y (o.push e++(y.extract k (j-1)).reverse) i k),i,k,o.push e++(y.extract k (j-1)).reverse,m,c,j-1-k)) else
   if (k==0)=true then pure (.done (some (hE x y (o.push e++(y.extract k (j-1)).reverse) i k),i,k,o.push e++(y.extract k (j-1)).reverse,m,c,j-1-k)) else
   h6 x y i k (o.push e++(y.extract k (j-1)).reverse) m c (j-1-k)) else h6 x y i (j-1) (o.push e) m c (j-1-k)
 | _=>pure (.done (some (hE x y (o.push e) i (j-1)),i,j-1,o.push e,m,c,d))
noncomputable def h3 (i j:Nat)(o:Array Keyed)(m c d:Nat):SM (ForInStep U3):=setG m >>= fun _=>elem' y (j-1) >>= fun e=>b8r false e x 0 i (i-1) >>= fun r=>match r with
 | some k=>if i-k>0 then (if (k==0)=true then pure (.done (some (hE x y (o++(x.extract k i).reverse) k j),k,j,o++(x.extract k i).reverse,m,i-k,d)) else
   h5 x y k j (o++(x.extract k i).reverse) m (i-k) d) else h5 x y i j o m (i-k) d
 | _=>pure (.done (some (hE x y o i j),i,j,o,m,c,d))
noncomputable def h2:U3->SM (ForInStep U3):=fun (_,i,j,o,m,c,d)=>if m>1 then h3 x y i j o (m-1) c d else h3 x y i j o m c d
noncomputable def h1 (m:Nat):U2->SM (ForInStep U2):=fun (_,i,j,o,c,d)=>elem' y (j-1) >>= fun u=>elem' x (i-1) >>= fun v=>lt' u v >>= fun r=>match r with
 | some b=>if b=true then elem' x (i-1) >>= fun e=>if (i-1==0)=true then pure (.done (some (hE x y (o.push e) (i-1) j),i-1,j,o.push e,c+1,0)) else
    if c+1 ≥ m then pure (.done (none,i-1,j,o.push e,c+1,0)) else pure (.yield (none,i-1,j,o.push e,c+1,0))
   else elem' y (j-1) >>= fun e=>if (j-1==1)=true then pure (.done (some (hF x y (o.push e) i (j-1)),i,j-1,o.push e,0,d+1)) else
    if d+1 ≥ m then pure (.done (none,i,j-1,o.push e,0,d+1)) else pure (.yield (none,i,j-1,o.push e,0,d+1))
 | _=>pure (.done (some (hE x y o i j),i,j,o,c,d))
noncomputable def h4 (s:U1):SM (ForInStep U1):=(forIn [0:x.size+y.size] (none,s.2.1,s.2.2.1,s.2.2.2.1,0,0) (fun _ t=>h1 x y s.2.2.2.2 t):SM U2) >>= fun t=>match t.1 with
 | some r=>pure (.done (some r,t.2.1,t.2.2.1,t.2.2.2.1,s.2.2.2.2))
 | none=>liftM (rule "list.sort.gallop") >>= fun _=>(forIn [0:x.size+y.size] (none,t.2.1,t.2.2.1,t.2.2.2.1,s.2.2.2.2+1,t.2.2.2.2.1,t.2.2.2.2.2) (fun _ u=>h2 x y u):SM U3) >>= fun u=>match u.1 with
  | some r=>pure (.done (some r,u.2.1,u.2.2.1,u.2.2.2.1,u.2.2.2.2.1))
  | none=>setG (u.2.2.2.2.1+1) >>= fun _=>pure (.yield (none,u.2.1,u.2.2.1,u.2.2.2.1,u.2.2.2.2.1+1))
end
theorem hi_own (x y:Array Keyed):mergeHi' x y=(liftM (rule "list.sort.merge-hi") >>= fun _=>elem' x (x.size-1) >>= fun e=>if (x.size-1==0)=true then pure (hE x y #[e] (x.size-1) y.size) else if (y.size==1)=true then pure (hF x y #[e] (x.size-1) y.size) else
 get >>= fun st=>(forIn [0:x.size+y.size] (none,x.size-1,y.size,#[e],gallopOf st) (fun _ s=>h4 x y s):SM U1) >>= fun s=>match s.1 with|some r=>pure r|none=>liftM (unsupported "internal:list.sort.merge-bound")):=by
 show (liftM (rule _) >>= _)=_
 congr 1
 funext _
 show (elem' x (x.size-1) >>= _)=_
 congr 1
 funext e
 show (if (x.size-1==0)=true then pure (hE x y #[e] (x.size-1) y.size) else if (y.size==1)=true then pure (hF x y #[e] (x.size-1) y.size) else get >>= _)=_
 congr 3
 funext st
 show ((forIn [0:x.size+y.size] (none,x.size-1,y.size,#[e],gallopOf st) _:SM U1) >>= _)=_
 congr 1
 ·congr 1
  funext i s
  show ((forIn [0:x.size+y.size] (none,s.2.1,s.2.2.1,s.2.2.2.1,0,0) _:SM U2) >>= _)=_;unfold h4
  congr 1
  funext t
  obtain⟨t1,t⟩:=t
  cases t1 with
  | some r=>rfl
  | none=>
   show (liftM (rule _) >>= _)=_;dsimp only
   congr 1
   funext _
   show ((forIn [0:x.size+y.size] (none,t.1,t.2.1,t.2.2.1,s.2.2.2.2+1,t.2.2.2.1,t.2.2.2.2) _:SM U3) >>= _)=_
   congr 1
   funext u
   obtain⟨u1,u⟩:=u;cases u1<;>rfl
 ·funext s
  obtain⟨s1,s⟩:=s;cases s1<;>rfl
section
variable {k:Nat->Int}{a a':AS}{x y o:Array Nat}{i j m c d:Nat}{M:Nat->Nat->Prop}{τ:Type}
structure Ch (M:Nat->Nat->Prop)(a:AS)(Q:ForInStep (Option (Array Nat)×Nat×Nat×Array Nat×τ)->AS->Prop):Prop where
 s:∀r t a',Zp a a'->Q (.done (some r,t)) a'
 n:∀i j t a',Zp a a'->M i j->Q (.done (none,i,j,t)) a'/\Q (.yield (none,i,j,t)) a'
theorem ev_h1 {Q:ForInStep (Option (Array Nat)×Nat×Nat×Array Nat×Nat×Nat)->AS->Prop}(C:Ch M a Q)(hz:Zp a a')(n1:i-1<x.size)(n2:j-1<y.size)(hA:i-1≠0->M (i-1) j)(hB:j-1≠1->M i (j-1)):Ev k (fun f=>h1 (x.map f) (y.map f) m (none,i,j,o.map f,c,d)) (gs g5) Q a':=by
 unfold h1 hE hF;refine a2n n2 fun _=>a2n n1 fun _=>ev_ltB fun b=>?_;dsimp only;refine b1b (fun _=>a2n n1 fun _=>?_) fun _=>a2n n2 fun _=>?_<;>fail"ma"
 ·exact a6h (fun _=>hi_s (C.s _ _ _ hz)) fun c=>b1b (fun _=>hi_d (C.n _ _ _ _ hz (hA c)).1) fun _=>hi_y (C.n _ _ _ _ hz (hA c)).2
 ·exact a6h (fun _=>hi_s (C.s _ _ _ hz)) fun c=>b1b (fun _=>hi_d (C.n _ _ _ _ hz (hB c)).1) fun _=>hi_y (C.n _ _ _ _ hz (hB c)).2
variable {Q:ForInStep (Option (Array Nat)×Nat×Nat×Array Nat×Nat×Nat×Nat)->AS->Prop}
theorem ev_h6 (C:Ch M a Q)(hz:Zp a a')(n1:i-1<x.size)(n2:i-1≠0->M (i-1) j):Ev k (fun f=>h6 (x.map f) (y.map f) i j (o.map f) m c d) (gs g5) Q a':=by
 unfold h6 hE;refine a2n n1 fun _=>?_;fail"ma";exact a6h (fun _=>hi_s (C.s _ _ _ hz)) fun c=>b1b (fun _=>hi_d (C.n _ _ _ _ hz (n2 c)).1) fun _=>hi_y (C.n _ _ _ _ hz (n2 c)).2
theorem ev_h5 (C:Ch M a Q)(hz:Zp a a')(n1:i-1<x.size)(n2:2<=j)(n3:j<=y.size)(n4:∀n,2<=n->n<=j-1->i-1≠0->M (i-1) n):Ev k (fun f=>h5 (x.map f) (y.map f) i j (o.map f) m c d) (gs g5) Q a':=by
 unfold h5 hE hF;refine a2n (by omega) fun _=>?_;fail"ma";refine a6h (fun _=>hi_s (C.s _ _ _ hz)) fun c1=>a2n n1 fun _=>b2t (by omega) (by omega) fun v hv=>?_;dsimp only;exact b1b (fun _=>a6h (fun _=>hi_s (C.s _ _ _ hz)) fun c2=>a6h (fun _=>hi_s (C.s _ _ _ hz)) fun c3=>ev_h6 C hz n1 (n4 _ (by omega) hv)) fun _=>ev_h6 C hz n1 (n4 _ (by omega) (A0f _))
theorem ev_h3 (C:Ch M a Q)(hz:Zp a a')(n1:1<=i)(n2:i<=x.size)(n3:2<=j)(n4:j<=y.size)(n5:∀i' n,1<=i'->i'<=i->2<=n->n<=j-1->i'-1≠0->M (i'-1) n):Ev k (fun f=>h3 (x.map f) (y.map f) i j (o.map f) m c d) (gs g5) Q a':=by
 unfold h3 hE;refine b5s { a' with g:=m } (fun f=>rfl) (a2n (by omega) fun _=>b2t (by omega) (by omega) fun v hv=>?_)
 replace hz:Zp a { a' with g:=m }:=hz
 dsimp only;fail"ma";exact b1b (fun _=>a6h (fun _=>hi_s (C.s _ _ _ hz)) fun c2=>ev_h5 C hz (by omega) n3 n4 fun n h h'=>n5 _ n (by omega) hv h h') fun _=>ev_h5 C hz (by omega) n3 n4 fun n h h'=>n5 _ n n1 (A0f _) h h'
theorem ev_mergeHi (hx:0<x.size)(hy:0<y.size):Ev k (fun f=>mergeHi' (x.map f) (y.map f)) gm (fun r a'=>Zp a a') a:=by
 simp only[hi_own,A2p];refine c1y (a2n (by omega) fun j0=>?_);have e0:∀f:Fm,#[f j0]=B3a f #[j0]:=fun f=>by simp
 simp only[e0,hE,hF];fail"ma";refine a6h (fun _=>a1c _ (fun _=>rfl) ⟨rfl,rfl⟩) fun c1=>a6h (fun _=>a1c _ (fun _=>rfl) ⟨rfl,rfl⟩) fun c2=>c3a ?_;refine a9e g5 (none,x.size-1,y.size,#[j0],a.g) (fun f=>rfl) (fun i b a'=>Zp a a'/\b.1=none/\1<=b.2.1/\b.2.1<=x.size/\2<=b.2.2.1/\b.2.2.1<=y.size/\i+1+b.2.1+b.2.2.1<=x.size+y.size) (fun b a'=>Zp a a'/\b.1≠none) ?_ (fun b a' h=>absurd h.2.2 (by omega)) ⟨⟨rfl,rfl⟩,rfl,by dsimp only;omega⟩ ?_
 ·rintro i ⟨_,p,q,o,mg⟩ a' _ hi ⟨hz,rfl,hm⟩;dsimp only at hm;unfold h4;simp only[A2p];refine a9e g5 (none,p,q,o,0,0) (fun f=>rfl) (fun j b a'=>Zp a a'/\b.1=none/\1<=b.2.1/\b.2.1<=x.size/\2<=b.2.2.1/\b.2.2.1<=y.size/\i+1+j+b.2.1+b.2.2.1<=x.size+y.size) (fun b a'=>Zp a a'/\(b.1=none->1<=b.2.1/\b.2.1<=x.size/\2<=b.2.2.1/\b.2.2.1<=y.size/\i+2+b.2.1+b.2.2.1<=x.size+y.size)) ?_ (fun b a' h=>⟨h.1,fun _=>⟨h.2.2.1,h.2.2.2.1,h.2.2.2.2.1,h.2.2.2.2.2.1,A0y (by omega) h.2.2.2.2.2.2⟩⟩) ⟨hz,rfl,hm⟩ ?_
  ·rintro j ⟨_,p,q,o,c,d⟩ a' _ hj ⟨hz,rfl,hm⟩;dsimp only at hm;exact ev_h1 (i:=p) (j:=q) (M:=fun p q=>1<=p/\p<=x.size/\2<=q/\q<=y.size/\i+1+(j+1)+p+q<=x.size+y.size) ⟨fun _ _ _ h=>⟨h,fun e=>nomatch e⟩,fun _ _ _ _ h m=>⟨⟨h,fun _=>⟨m.1,m.2.1,m.2.2.1,m.2.2.2.1,A0y (by dsimp only;omega) m.2.2.2.2⟩⟩,h,rfl,m⟩⟩ hz (by omega) (by omega) (fun z=>⟨by omega,by omega,hm.2.2.1,hm.2.2.2.1,by omega⟩) (fun z=>⟨hm.1,hm.2.1,by omega,by omega,by omega⟩)
  ·rintro⟨b1,p,q,o,c,d⟩ a' ⟨hz,hm⟩
   cases b1 with
   | some r=>
    dsimp only[g5,A2s];exact hi_s ⟨hz,fun e=>nomatch e⟩
   | none=>
   replace hm:=hm rfl
   dsimp only at hm;refine c1y (a9e g5 (none,p,q,o,mg+1,c,d) (fun f=>rfl) (fun j b a'=>Zp a a'/\b.1=none/\1<=b.2.1/\b.2.1<=x.size/\2<=b.2.2.1/\b.2.2.1<=y.size/\i+2+j+b.2.1+b.2.2.1<=x.size+y.size) (fun b a'=>Zp a a'/\(b.1=none->1<=b.2.1/\b.2.1<=x.size/\2<=b.2.2.1/\b.2.2.1<=y.size/\i+2+b.2.1+b.2.2.1<=x.size+y.size)) ?_ (fun b a' h=>⟨h.1,fun _=>⟨h.2.2.1,h.2.2.2.1,h.2.2.2.2.1,h.2.2.2.2.2.1,A0y (by omega) h.2.2.2.2.2.2⟩⟩) ⟨hz,rfl,hm⟩ ?_)
   ·rintro j ⟨_,p,q,o,m,c,d⟩ a' _ hj ⟨hz,rfl,hm⟩;dsimp only at hm;show Ev k (fun f=>if m>1 then h3 (x.map f) (y.map f) p q (o.map f) (m-1) c d else h3 (x.map f) (y.map f) p q (o.map f) m c d) _ _ _;have n5:∀i' n,1<=i'->i'<=p->2<=n->n<=q-1->i'-1≠0->1<=i'-1/\i'-1<=x.size/\2<=n/\n<=y.size/\i+2+(j+1)+(i'-1)+n<=x.size+y.size:=fun i' n a1 a2 a3 a4 a5=>⟨by omega,by omega,a3,by omega,by omega⟩;refine b1b (fun _=>?_) (fun _=>?_)<;>exact ev_h3 (M:=fun p q=>1<=p/\p<=x.size/\2<=q/\q<=y.size/\i+2+(j+1)+p+q<=x.size+y.size) ⟨fun _ _ _ h=>⟨h,fun e=>nomatch e⟩,fun _ _ _ _ h m=>⟨⟨h,fun _=>⟨m.1,m.2.1,m.2.2.1,m.2.2.2.1,A0y (by dsimp only;omega) m.2.2.2.2⟩⟩,h,rfl,m⟩⟩ hz hm.1 hm.2.1 hm.2.2.1 hm.2.2.2.1 n5
   ·rintro⟨b1,p,q,o,m,c,d⟩ a' ⟨hz,hm⟩
    cases b1 with
    | some r=>
     dsimp only[g5,A2s];exact hi_s ⟨hz,fun e=>nomatch e⟩
    | none=>
     dsimp only[g5,Option.map_none];refine b5s { a' with g:=m+1 } (fun f=>rfl) (hi_y ?_);exact⟨hz,rfl,hm rfl⟩
 ·rintro⟨b1,p⟩ a' ⟨hz,hm⟩
  cases b1 with
  | none=>exact absurd rfl hm
  | some r=>exact a1c r (fun f=>rfl) hz
end
end Srt
namespace Srt
open PySem PyProof.Rows
section
variable {k:Nat->Int}{α β:Type}{a:AS}{Q:β->AS->Prop}{g:Fm->β->α}
def put {X:Type}(s:Nat)(l:List (X×Nat))(z:Array X):Array X:=l.foldl (fun a q=>a.setIfInBounds (s+q.2) q.1) z
theorem put_map {X Y:Type}(f:X->Y)(s:Nat):∀(l:List (X×Nat)) (z:Array X),(put s l z).map f=put s (l.map (Prod.map f id)) (z.map f)
 | [],_=>rfl
 | c::l,z=>(put_map f s l _).trans (congrArg (put s _) Array.map_setIfInBounds)
theorem put_size {X:Type}(s:Nat):∀(l:List (X×Nat)) (z:Array X),(put s l z).size=z.size
 | [],_=>rfl
 | c::l,z=>(put_size s l _).trans Array.size_setIfInBounds
theorem ev_set {u:Fm->SortSt}{n:Fm->PUnit->SM α}(a':AS)(e:∀f,u f=cn f a')(h:Ev k (fun f=>n f ⟨⟩) g Q a'):Ev k (fun f=>set (u f) >>= n f) g Q a:=
 b5s (u:=fun f _=>u f) a' e h
theorem ev_put {s:Nat}{r:Array Nat}{n:Fm->PUnit->SM α}(h:Ev k (fun f=>n f ⟨⟩) g Q { a with z:=put s r.toList.zipIdx a.z }):Ev k (fun f=>modify (fun st=>A6s (kindOf st) (put s (r.map f).toList.zipIdx (arrOf st)) (pendingOf st) (gallopOf st) (failedOf st)) >>= n f) g Q a:=by
 refine b5s { a with z:=put s r.toList.zipIdx a.z } (fun f=>?_) h;show A6s _ _ _ _ _=A6s _ _ _ _ _
 congr 1
 rw[put_map,B1d,List.zipIdx_map]
theorem ev_mergeAt {na nb v w:Nat}{n:Fm->Bool->SM α}(hp:a.p= #[(0,na,v),(na,nb,w)])(h1:0<na)(h2:0<nb)(h3:na+nb<=a.z.size)(h:∀a',a'.z.size=a.z.size->a'.p.size=1->Ev k (fun f=>n f true) g Q a'):Ev k (fun f=>mergeAt' 0 >>= n f) g Q a:=by
 refine a7u (g1:=gid) (Q:=fun r a'=>_) (a7p (Q:=fun r a'=>r=true/\a'.z.size=a.z.size/\a'.p.size=1) ?_ fun r a' ⟨e,e1,e2⟩=>by subst e;exact h a' e1 e2);show Ev k (fun f=>get >>= _) _ _ _;refine c3a ?_;obtain⟨z,p,m⟩:=a;subst hp;dsimp only at h3 ⊢;refine ev_set ⟨z,#[(0,na+nb,v)],m⟩ (fun f=>by simp[cn]) (a2n (by omega) fun j1=>b2t (by omega) h1 fun v hv=>?_);dsimp only;refine a6h (fun _=>a1c true (fun _=>rfl) ⟨rfl,rfl,rfl⟩) fun c1=>a2n (by omega) fun j2=>b2t h3 (by omega) fun u hu=>?_;dsimp only;refine a6h (fun _=>a1c true (fun _=>rfl) ⟨rfl,rfl,rfl⟩) fun c2=>?_;simp only[<- Array.map_extract];refine b1b (fun _=>a7u (a7p (ev_mergeLo (by rw[A5m];omega) (by rw[A5m];omega)) ?_)) (fun _=>a7u (a7p (ev_mergeHi (by rw[A5m];omega) (by rw[A5m];omega)) ?_)) <;>
 ·rintro r a' ⟨e1,e2⟩;exact ev_put (c3a (a1c true (fun _=>rfl) ⟨rfl,by rw[put_size,e1],by rw[e2];rfl⟩))
theorem jn3 {T:Nat->AS->Prop}(P:Nat->AS->Prop){G:Prop}(h1:(∀n a,P n a->T n a)->G)(h2:∀n a,P n a->T n a):G:=h1 h2
theorem min_run {n:Nat}(h:n<=64)(h2:2<=n):∃m,minRun' n n 0=m/\0<m/\m<=n/\n<=m+m:=by
 by_cases c:n=64
 ·subst c;exact⟨32,by decide +kernel,by decide,by decide,by decide⟩
 ·obtain⟨f,rfl⟩:∃f,n=f+1:=⟨n-1,by omega⟩;exact⟨f+1,by rw[minRun'_succ,if_pos (by omega)],by omega,by omega,by omega⟩
theorem ev_sortRuns {n:Nat}(hn:a.z.size=n)(h64:n<=64)(h2:2<=n)(hp:a.p= #[]):Ev k (fun _=>sortRuns') gid (fun _ a'=>a'.z.size=n) a:=by
 rw[sortRuns'_eq];refine c3a ?_;obtain⟨m,em,m0,m1,m2⟩:=min_run h64 h2;have es:∀f,(arrOf (cn f a)).size=n:=fun f=>(A2p ..).trans hn;simp only[es,em];refine a9e gid (none,0) (fun _=>rfl) (fun i b a'=>a'.z.size=n/\b.1=none/\((b.2=0/\a'.p= #[]/\i=0)\/(0<b.2/\b.2<=n/\m<=b.2/\(i<=1\/b.2=n)/\∃v,a'.p= #[(0,b.2,v)])\/(b.2=n/\∃n1 n2 v w,a'.p= #[(0,n1,v),(n1,n2,w)]/\0<n1/\0<n2/\n1+n2<=n))) (fun b a'=>a'.z.size=n/\b.1=none/\(a'.p.size=1\/∃n1 n2 v w,a'.p= #[(0,n1,v),(n1,n2,w)]/\0<n1/\0<n2/\n1+n2<=n)) ?_ ?_ ⟨hn,rfl,.inl ⟨rfl,hp,rfl⟩⟩ ?_
 ·rintro i ⟨_,lo⟩ a' _ hi ⟨hz,rfl,hs⟩;dsimp +instances only [gid] at hs ⊢;refine b1b (fun c=>a1c (.done (none,lo)) (fun _=>rfl) ⟨hz,rfl,?_⟩) fun c=>?_
  ·rcases hs with ⟨_,_,_⟩|⟨_,_,_,_,v,e⟩|⟨_,h⟩
   ·omega
   ·exact .inl (by rw[e];rfl)
   ·exact .inr h
  refine a7u (a7p (ev_count (by omega) (by omega)) ?_);rintro _ a1 ⟨q,rfl,q1,q2,hL⟩;dsimp only;apply jn3 (fun q a1=>0<q/\q<=n-lo/\(m<=q\/lo+q=n)/\a1.z.size=n/\a1.p=a'.p)
  case h1=>
   intro key;refine b1b (fun _=>c1y (a7u (a7p (ev_binary (by rw[hL.1];omega)) ?_))) fun _=>?_
   ·rintro _ a2 ⟨rfl,hK⟩;dsimp +instances only [gid];refine b1b (fun c=>nomatch c) fun _=>?_;have hq:0<min (n-lo) m/\min (n-lo) m<=n-lo/\(m<=min (n-lo) m\/lo+min (n-lo) m=n)/\a2.z.size=n/\a2.p=a'.p:=⟨by omega,by omega,by omega,by rw[hK.1,hL.1,hz],by rw[hK.2.1,hL.2.1]⟩;generalize min (n-lo) m=r at hq ⊢;exact key r a2 hq
   ·exact key q a1 ⟨by omega,by omega,by omega,by rw[hL.1,hz],hL.2.1⟩
  case h2=>
  rintro r ⟨z,p,g⟩ ⟨r1,r2,r3,hz,e⟩;dsimp only at hz e;subst e;refine c3a ?_
  rcases hs with ⟨rfl,e,rfl⟩|⟨l1,l2,l3,l4,v,e⟩|⟨rfl,_⟩
  ·rw[e];refine b5s ⟨z,#[(0,r,0)],g⟩ (fun f=>rfl) (a1c (.yield (none,0+r)) (fun _=>rfl) ⟨hz,rfl,.inr (.inl ⟨by dsimp only;omega,by dsimp only;omega,by dsimp only;omega,.inl (by omega),0,by simp⟩)⟩)
  ·rw[e];refine a9e gid (none,()) (fun _=>rfl) (fun i b a'=>a'=⟨z,#[(0,lo,v)],g⟩/\b=(none,())) (fun b a'=>a'=⟨z,#[(0,lo,v)],g⟩/\b=(none,())) ?_ (fun b a' h=>h) ⟨rfl,rfl⟩ ?_
   ·rintro i b a' _ hi ⟨rfl,rfl⟩;exact c3a (a1c (.done (none,())) (fun _=>rfl) ⟨rfl,rfl⟩)
   rintro b a' ⟨rfl,rfl⟩;refine b5s ⟨z,#[(0,lo,power' n (2*0+lo) (2*0+lo+lo+r) n)],g⟩ (fun f=>rfl) (b5s ⟨z,#[(0,lo,power' n (2*0+lo) (2*0+lo+lo+r) n),(lo,r,0)],g⟩ (fun f=>rfl) (a1c (.yield (none,lo+r)) (fun _=>rfl) ⟨hz,rfl,.inr (.inr ⟨by dsimp only;omega,lo,r,_,0,rfl,l1,r1,by omega⟩)⟩))
  ·omega
 ·rintro⟨_,lo⟩ a' ⟨hz,rfl,hs⟩;refine⟨hz,rfl,?_⟩
  rcases hs with ⟨_,_,c⟩|⟨_,_,_,_,v,e⟩|⟨_,h⟩
  ·omega
  ·exact .inl (by rw[e];rfl)
  ·exact .inr h
 ·rintro⟨_,lo⟩ a' ⟨hz,rfl,hs⟩;dsimp +instances only [gid];refine a9e gid (none,()) (fun _=>rfl) (fun i b a'=>a'.z.size=n/\b=(none,())/\(a'.p.size=1\/i=0/\∃n1 n2 v w,a'.p= #[(0,n1,v),(n1,n2,w)]/\0<n1/\0<n2/\n1+n2<=n)) (fun b a'=>a'.z.size=n/\b=(none,())) ?_ (fun b a' h=>⟨h.1,h.2.1⟩) ⟨hz,rfl,hs.imp id fun h=>⟨rfl,h⟩⟩ ?_
  ·rintro i b a' _ hi ⟨hz,rfl,hs⟩;refine c3a ?_
   rcases hs with hs|⟨_,n1,n2,v,w,e,n3,n4,n5⟩
   ·exact b1b (fun _=>a1c (.done (none,())) (fun _=>rfl) ⟨hz,rfl⟩) fun c=>absurd (B3j hs) c
   ·obtain⟨z,p,g⟩:=a';subst e;show Ev k (fun f=>if 2<=1 then _ else mergeAt' 0 >>= _) _ _ _;refine b1b (fun c=>absurd c (by decide)) fun _=>?_;refine ev_mergeAt rfl n3 n4 (by rw[hz];exact n5) fun a' h1 h2=>?_;refine b1b (fun c=>nomatch c) fun _=>a1c (.yield (none,())) (fun _=>rfl) ⟨h1.trans hz,rfl,.inl h2⟩
  ·rintro _ a' ⟨hz,rfl⟩;exact a1c () (fun _=>rfl) hz
end
end Srt
namespace L2
open PySem PySem.Spec PyProof.Rows Srt
variable {ns:List Int}{vs:List Value}
theorem pl_ev (ns:List Int)(h:2<=ns.length/\ns.length<=64):Ev (ns.getD · 0) (fun _=>sortRuns') gid (fun _ a'=>a'.z.size=ns.length) ⟨Array.range ns.length,#[],7⟩:=
 ev_sortRuns Array.size_range h.2 h.1 rfl
noncomputable def srt (ns:List Int):List Int:=open Classical in if h:2<=ns.length/\ns.length<=64 then (pl_ev ns h).choose_spec.choose.z.toList.map (ns.getD · 0) else ns
theorem ints_get:∀{vs:List Value} {ns:List Int},IntsAre vs ns->∀i,∃t,vs.getD i (.int 0 0)=.int (ns.getD i 0) t
 | _,_,.nil,_=>⟨0,rfl⟩
 | _,_,.cons n t r,0=>⟨t,rfl⟩
 | _,_,.cons n t r,i+1=>by simpa using ints_get r i
theorem ints_map {f:Nat->Value}{k:Nat->Int}(h:∀i,∃t,f i=.int (k i) t):∀l:List Nat,IntsAre (l.map f) (l.map k)
 | []=>.nil
 | i::l=>by
  obtain⟨t,e⟩:=h i;rw[A0m,e];exact .cons _ t (ints_map h l)
theorem d6v:∀{vs:List Value} {ns:List Int},IntsAre vs ns->vs.length=ns.length
 | _,_,.nil=>rfl
 | _,_,.cons _ _ r=>congrArg (· + 1) (d6v r)
section
variable {prog:Program}{w:World}{A:Around}{E:Value->Shared->Prop}{s:Shared}
theorem runs_srt (hI:IntsAre vs ns)(h2:2<=ns.length)(h64:ns.length<=64){R:Unit->SortSt->Prop}(h:∀st:SortSt,failedOf st=none->IntsAre ((arrOf st).map (·.2)).toList (srt ns)->(srt ns).length=ns.length->R () st) :
  wpS (model prog w) A E s sortRuns' R (A6s oneType' (vs.toArray.zip vs.toArray) #[] 7 none):=by
 have hs:srt ns=(pl_ev ns ⟨h2,h64⟩).choose_spec.choose.z.toList.map (ns.getD · 0):=dif_pos ⟨h2,h64⟩
 obtain⟨q,ev⟩:=(pl_ev ns ⟨h2,h64⟩).choose_spec.choose_spec;generalize (pl_ev ns ⟨h2,h64⟩).choose_spec.choose=a' at hs q ev;have G:=ints_get hI
 have e:(Array.range ns.length).map (fun i=>(vs.getD i (.int 0 0),vs.getD i (.int 0 0)))=vs.toArray.zip vs.toArray:=by
  apply Array.ext
  ·simp[d6v hI]
  ·intro i h1 h2;have:i<vs.length:=by simpa using h2
   simp[this]
 have:=ev prog w A E s (fun i=>(vs.getD i (.int 0 0),vs.getD i (.int 0 0))) (fun i=>by obtain⟨t,e⟩:=G i;exact⟨t,A5t e e⟩) R (h _ rfl (by
  show IntsAre ((a'.z.map _).map _).toList _;rw[hs,Array.map_map,B1d]
  exact ints_map G _) (by rw[hs,A0c,A2g,q]))
 rw[<- e];exact this
theorem sort_srt {a:Addr}{n:Nat}{P:Fin->Shared->Prop}(ho:s.heap.get? a=some (seqObj "list" vs.toArray n))(hI:IntsAre vs ns)(h64:ns.length<=64)
  (h:∀out:Array Value,IntsAre out.toList (srt ns)->(srt ns).length=ns.length->P (.done (.ret .none)) { s with heap:=sortedHeap s.heap a vs out }):wpAny (model prog w) A (Builtin.«list.sort» ⟨[.ref a],[]⟩) P E s:=by
 rw[list_sort_plain];have ha:=A0n ho;obtain⟨e1,o1⟩:∃e1,(s.heap.update a (A8f fun _=>#[])).get? a=some (seqObj "list" #[] e1):=⟨_,get?_update_seq ho _⟩;refine A0b (listItems_at ho rfl (A0b (listUpdate_at ho rfl (A0b (seqEpoch_at o1 rfl (A0b (wpAny_newTuple (A0b (wpAny_newList (A5b ?_))))))))));have o6:(((s.heap.update a (A8f fun _=>#[])).push (seqObj "tuple" vs.toArray 0)).push (seqObj "list" #[] 0)).get? a=some (seqObj "list" #[] e1):=Heap.get?_push_of_some _ (Heap.get?_push_of_some _ o1);show wpAny _ A _ P E { s with heap:=((s.heap.update a (A8f fun _=>#[])).push (seqObj "tuple" vs.toArray 0)).push (seqObj "list" #[] 0) };have hl:=d6v hI
 by_cases c:vs.toArray.size<2
 ·dsimp only;rw[if_pos c,if_pos c];simp only[StateT.run_pure];have hs:srt ns=ns:=dif_neg fun h=>by simp at c;omega
  refine A0b (A0h (A0b (A0h (A0b (seqEpoch_at o6 rfl (A0b (listUpdate_at o6 rfl ?_ (hsz2:=by rw[A2p,Array.size_zip,Nat.min_self];exact A0y (A4h c) (by rw[A8m];decide)))))))));simp only[bne_self_eq_false,A2b,if_false];exact A0h (h _ (by rw[hs];show IntsAre (B3a (·.2) (vs.toArray.zip vs.toArray)).toList ns;rw[B1d,Array.toList_zip,List.map_snd_zip (A0f _)];exact hI) (by rw[hs]))
 ·dsimp only;rw[if_neg c,if_neg c]
  obtain⟨v₁,v₂,r,rfl⟩:∃v₁ v₂ r,vs=v₁::v₂::r:=by
   rcases vs with _|⟨v₁,_|⟨v₂,r⟩⟩
   ·simp at c
   ·simp at c
   ·exact⟨_,_,_,rfl⟩
  rw[keyKind_ints hI];refine A0b (A0h (A0b (A2m (runs_srt (R:=fun _ st=>failedOf st=none/\IntsAre ((arrOf st).map (·.2)).toList (srt ns)/\(srt ns).length=ns.length) hI (by rw[<- hl];simp) h64 fun st a1 a2 a3=>⟨a1,a2,a3⟩) ?_ fun _ _ e=>e)))
  rintro⟨⟨⟩,st⟩ s' ⟨rfl,hf,h1,h2⟩;dsimp only;refine A0b (seqEpoch_at o6 rfl (A0b (listUpdate_at o6 rfl ?_ (hsz2:=by show Array.size _<=_;rw[<- A2g,d6v h1,h2];exact A0y h64 (by rw[A8m];decide)))));rw[hf];simp only[bne_self_eq_false,A2b,if_false];exact A0h (h _ h1 h2)
end
section
variable {X:Cx}
def rSortF:List V->Hp->VK->Prop:=fun xs H Q=>∃a kvs ns,xs=[V.ref a]/\Rd H a (.dK kvs)/\KInts kvs ns/\ns.length<=64/\∀l,H l=none->Q (.ref l) (upd H l (.lst ((srt ns).map V.int)))
theorem c3q (hc:X.calm=true):b3k X (.builtin "sorted") rSortF:=by
 intro pins s σ H xs us Q I r ⟨a,kvs,ns,ex,ha,hk,h64,q⟩;subst ex;obtain⟨u,rfl,ru⟩:=vals1 r;cases ru;obtain⟨z,lo,vs,rel,dd⟩:=b6w I.hok ha;obtain⟨ep,hm⟩:=dd.dictAt;have hl2:vs.length=kvs.length:=rel.length.symm;refine Calls.call_function_entry kind_sorted plain_sorted entry_sorted (args_sorted1 _) ?_;unfold Builtin.«sorted»;refine A0b (m:=checkCount "sorted" 1 1 _) (A0h (A0b (c8m (knd:=a1s X.prog X.w) (I.ok.hd hc) lo hm (by rw[hl2];exact z) fun h1 tk us hk1 hle1 hlen hus=>A0b (wpAny_newList ?_))))
 have hI:IntsAre us ns:=ints_by (by rw[hlen,hl2,kints_len hk]) fun j v n e1 e2=>by
  obtain⟨k,x,e3,e4⟩:=hus j v e1;exact d5j hk rel e3 e4 e2
 have hoL:(h1.push (seqObj "list" us.toArray 0)).get? h1.objs.size=some (seqObj "list" us.toArray 0):=Heap.get?_push_size _ rfl;show wpAny _ _ _ _ _ { s with heap:=h1.push (seqObj "list" us.toArray 0),toks:=tk };refine A0b (A5b (A4g slot_list_sort ⟨_,hoL,rfl⟩ entry_list_sort (sort_srt hoL hI h64 fun out a1 a2=>⟨_,rfl,?_⟩) (args_list_sort _)));obtain⟨e,he⟩:=sortedHeap_at (out:=out) hoL
 have J:=I.laid (o:=.lst ((srt ns).map V.int)) (t':=tk) (h':=sortedHeap (h1.push (seqObj "list" us.toArray 0)) h1.objs.size us out) (a:=h1.objs.size) (fun b o eb=>by
  have hb:=A0n (hk1 _ _ eb);rw[sortedHeap_old (A1j hb) (by rw[A5e];exact A5x hb)]
  exact Heap.get?_push_of_some _ (hk1 _ _ eb)) hle1 ⟨by rw[A0c];exact A4h (a5r (by omega)),out.toList,e,ints_vals a1,by simpa[seqObj] using he⟩
 exact A0h ⟨_,rfl,.ref h1.objs.size,_,J,rfl,q _ (I.hok.fresh hle1)⟩
end
end L2
set_option maxHeartbeats 30000000
namespace L2
open PySem
theorem d4c:bootBuiltins "all" = some (.builtin "all"):=by decide +kernel
end L2
namespace L2
open PySem PySem.Spec PyProof.Rows
theorem FunD.ok {P:Program}{w:World}{K:A0a}{mg:Str->Option Value}{base:Heap}{x qual:Str}{st:Stmt}{f:Addr}{fd:FuncData}{d:Value}{N ps:List Str}{k:Nat}{sp:Sp}(F:FunD K x qual st f fd d)(S:a0r N ps (a0f st))(len:∀vs H Q E,sp vs H Q E->vs.length=ps.length)
  (hb:∀(cdv:Value) (A:Around) (outer:List Env) (s:Shared) (H:Hp) (vs:List V) (Q:VK) (E:XK),b4h k (A.deeper (envOfC qual (a0f st) s.heap.objs.size f cdv))->sp vs H Q E->∃t,PSs (cxOf CX0 P w K mg base N qual (a0f st) f cdv A outer s H E).nox (a2j st) t/\t { nx:=fun _ H'=>Q .non H',rt:=Q } (start N vs) H):a2k P w K mg base CX0 (k+1) f fd ps sp:=by
 obtain⟨oc,od,kV,doc,pm,an,cdv,ct,osl,T,o2,n2,rfl,lk,hcd,_⟩:=F.ex;exact fn_of lk hcd S len fun A outer s H vs Q E hr hsp=>(hb cdv A outer s H vs Q E hr hsp).imp fun _ h=>⟨h.1.nox,h.2⟩
end L2
namespace Tw
open PySem L2
variable {K:A0a}{C C' T T4 a0e a0g a0h a0n a1e a1g a1h a2d b c d dx dx' dx0 f lb p q0 x:Addr}{CX:CXT}{X:Cx}{fd:FuncData}{base h:Heap}{G H H':Hp}{l:Lam}{es:List (Nat×Bool)}{as:List Addr}{bs:List Nat}{ps:List Str}{us:List Value}{j k m z:Nat}{e:Nat×Int×Int}{o:Obj}{pos:Pos}{P:Program}{r:Row}{sp:Sp}{σ:St}{ta te:TE}{Q:VK}{ws':Wh}{w:World}
local macro_rules|`(tactic| fail"la")=>`(tactic| first|(with_reducible assumption)|exact a0b|(with_reducible refine' upd_get ?s1 ?s2;(case s1=>with_reducible assumption);(case s2=>fail"la")))
local macro_rules|`(tactic| fail"sq")=>`(tactic| first|(with_reducible assumption)|(with_reducible apply SqT.of a0b)|(with_reducible apply SqL.of a0b)|(with_reducible apply SqT.of;with_reducible assumption)|(with_reducible apply SqL.of;with_reducible assumption)|(with_reducible apply SqT.upd<;>first|(with_reducible assumption)|fail"sq")|(with_reducible apply SqL.upd<;>first|(with_reducible assumption)|fail"sq")|(with_reducible refine' a2f.tup ?s1 ?s2;(case s1=>with_reducible assumption);(case s2=>fail"sq"))|(with_reducible refine' a2f.seq ?s1 ?s2;(case s1=>with_reducible assumption);(case s2=>fail"sq")))
local macro_rules|`(tactic| fail"st")=>`(tactic| dsimp only[cxOf_K])
local macro_rules|`(tactic| fail"sd")=>`(tactic| first|omega|exact pow_pos2 _|exact pow_le100 (by omega)|exact cdivw_pow (by omega)|exact cpow_n (by omega)|exact⟨by decide,by decide⟩|exact .inl ⟨by decide,by decide⟩|decide)
local macro_rules|`(tactic| fail"tx")=>`(tactic| ((with_reducible refine' st_ixT ?s1 ?e1 ?h1);(case s1=>fail"sq");(case e1=>exact rfl)))
local macro_rules|`(tactic| fail"sm")=>`(tactic| first|(with_reducible assumption)|exact a2f.refl _|(with_reducible refine' a2f.updR ?s1 ?s2;(case s2=>with_reducible assumption);(case s1=>fail"sm"))|(with_reducible refine' a2f.trans ?s1 ?s2;(case s2=>with_reducible assumption);(case s1=>fail"sm")))
local macro_rules|`(tactic| fail"h0")=>`(tactic| first|with_reducible refine st_andS ?_|with_reducible refine st_andB ?_|with_reducible refine st_and1 ?_|with_reducible refine st_chain ?_|with_reducible refine st_dnew ?_|with_reducible refine d2s ?_|((with_reducible refine' st_lstT ?s1 ?h1);(case s1=>fail"sq"))|with_reducible refine st_raise ?_|with_reducible refine st_try ?_|((with_reducible refine st_shlB ?c1 ?h1);(case c1=>omega))|((with_reducible refine' st_in01 ?s1 ?c1 ?h1);(case s1=>fail"sq");(case c1=>omega)))
local macro_rules|`(tactic| fail"h1")=>`(tactic| with_reducible first|refine st_seq ?_|refine st_asg ?_|refine st_gname ?_|refine st_op ?_|refine st_c ?_|refine st_if ?_|refine st_ret ?_|refine st_test ?_|refine st_bl ?_|refine st_cons ?_|refine st_nil ?_|refine st_call ?_|refine st_tup ?_|refine st_and ?_|refine st_or ?_|refine st_not ?_|refine st_andN ?_|refine st_orN ?_|refine st_xorN ?_|refine st_bit ?_|refine d1z ?_|refine st_shrN ?_|refine st_eqi ?_|refine st_nei ?_|refine st_eqb ?_|refine st_neb ?_|refine st_eqs ?_|refine st_nes ?_|refine st_cb ?_|refine st_lst ?_|refine st_next ?_|refine st_retN ?_|refine st_drop ?_|refine st_gcons ?_|refine st_gnil ?_|refine st_un ?_|refine st_u ?_|refine st_tB ?_|refine st_andV ?_|refine st_orV ?_|refine st_notV ?_|refine st_ifE ?_|refine st_part ?_|refine st_int ?_|refine st_nopart ?_|refine st_sl ?_)
local macro_rules|`(tactic| fail"h2")=>`(tactic| first|with_reducible refine st_bm0 ?_|with_reducible refine st_bm ?_|with_reducible refine st_tyI ?_|with_reducible refine st_tyS ?_|with_reducible refine st_bitlen ?_|((with_reducible refine' st_tyL ?s1 ?h1);(case s1=>fail"sq"))|((with_reducible refine' st_lenL ?s1 ?h1);(case s1=>fail"sq"))|((with_reducible refine' st_lenT ?s1 ?h1);(case s1=>fail"sq"))|((with_reducible refine' st_cat ?s1 ?s2 ?s3 ?h1);(case s1=>fail"la");(case s2=>fail"la");(case s3=>first|omega|(simp only[A0s,A0c,A1a,A4v];omega)))|((with_reducible refine' st_append ?s1 ?s2 ?h1);(case s1=>fail"la");(case s2=>first|omega|(simp only[A0s,A0c,A1a,A4v];omega))))
local macro_rules|`(tactic| fail"g0")=>`(tactic| first|((with_reducible refine' st_var ?e1 ?h1);(case e1=>exact rfl))|fail"h0" | fail"h1" | fail"tx" | ((with_reducible refine' c9x ?s1 ?e1 ?h1);(case s1=>fail"sq");(case e1=>first|assumption|exact rfl))|((with_reducible refine st_shl1 ?c1 ?h1);(case c1=>fail"sd"))|((with_reducible refine st_modN ?c1 ?h1);(case c1=>fail"sd");intro _ _ _)|((with_reducible refine st_divN ?c1 ?c2 ?h1);(case c1=>fail"sd");(case c2=>fail"sd"))|((with_reducible refine st_i ?c1 ?h1);(case c1=>fail"sd"))|((with_reducible refine st_size ?c1 ?h1);(case c1=>exact rfl))|((with_reducible refine' st_gtup ?s1 ?e1 ?h1);(case s1=>fail"sq");(case e1=>exact rfl))|((with_reducible refine' st_slL ?s1 ?h1);(case s1=>fail"sq"))|((with_reducible first|refine' rNeD_2 ?s1 ?s2 ?h1|refine' rEqD_2 ?s1 ?s2 ?h1|refine' rNeD_3 ?s1 ?s2 ?h1|refine' rEqD_3 ?s1 ?s2 ?h1);(case s1=>fail"sq");(case s2=>fail"sq"))|((with_reducible refine' c0t ?s1 ?s2 ?h1);(case s1=>first|exact b8x.bl _|exact b8x.int _|exact b8x.str _|exact b8x.non|exact b8x.tup a0b|exact b8x.lst a0b|(with_reducible refine' b8x.tup ?e9;(case e9=>fail"la"))|(with_reducible refine' b8x.lst ?e9;(case e9=>fail"la"))|exact b8x.dK a0b);(case s2=>first|exact kit_NoneType_int|exact kit_NoneType_bool|exact kit_NoneType_str|exact kit_NoneType_tuple|exact kit_NoneType_list|exact kit_NoneType_dict|exact kit_bool_int|exact kit_bool_bool|exact kit_bool_str|exact kit_bool_tuple|exact kit_bool_list|exact kit_bool_dict|exact d0g|exact c3c|exact kit_int_str|exact kit_int_tuple|exact kit_int_list|exact kit_int_dict|exact kit_str_int|exact kit_str_bool|exact kit_str_str|exact kit_str_tuple|exact kit_str_list|exact kit_str_dict|exact kit_list_int|exact kit_list_bool|exact kit_list_str|exact kit_list_tuple|exact kit_list_list|exact kit_list_dict|exact kit_tuple_int|exact kit_tuple_bool|exact kit_tuple_str|exact a3y|exact kit_tuple_list|exact kit_tuple_dict|exact kit_dict_int|exact kit_dict_bool|exact kit_dict_str|exact kit_dict_tuple|exact kit_dict_list|exact kit_dict_dict))|fail"h2" | with_reducible refine iteT ?_|with_reducible refine iteF ?_|with_reducible refine iteNT ?_|with_reducible refine iteNF ?_)
local macro_rules|`(tactic| fail"go")=>`(tactic| repeat (first|fail"g0" | with_reducible refine(fun (p:Addr) (hp:_=none)=>?_:∀p:Addr,_=none->_)|dsimp only[A6y,A6g]))
local macro_rules|`(tactic| fail"h2")=>`(tactic| with_reducible first|refine st_fld ?_|refine st_put ?_|refine st_make ?_|refine st_md ?_|refine st_intB ?_)
local macro_rules|`(tactic| fail"tx")=>`(tactic| ((with_reducible refine' st_ixT ?s1 ?e1 ?h1);(case s1=>fail"sq");(case e1=>first|exact at0 _ _|exact at1 _ _ _)))
local macro_rules|`(tactic| fail"h0")=>`(tactic| with_reducible first|refine st_xorBB ?_|refine st_xorNB ?_|refine st_sub1B ?_)
local macro_rules|`(tactic| fail"h0")=>`(tactic| with_reducible first|refine st_dget2 ?_|refine st_dput ?_)
local macro_rules|`(tactic| fail"kw1")=>`(tactic| first|((with_reducible refine' ite_t ?e9 ?h9);(case e9=>decide +kernel))|((with_reducible refine' ite_f ?e9 ?h9);(case e9=>decide +kernel)))
local macro_rules|`(tactic| fail"kw")=>`(tactic| (fail"go"; repeat (fail"kw1"; fail"go")))
theorem b3g {A:Around}(hr:b4h k A):A.units+64<cLine:=hr.units
theorem a0v {a b:Expr}{tb:TE}{r:R2}(hr:IxR X r)(ha:PE X a ta)(hb:PE X b tb)(hs:PlainIx b:=by exact fun _ _=>rfl):PE X (.Subscript a b pos) (tOp r ta tb):=pe_ix hr ha hb hs
theorem a1k {pos':Pos}{x:Str}{e:Expr}(i:Nat)(hN:X.N.Nodup)(he:PE X e te)(hi:X.N[i]? = some x:=by rfl)(hx:Loc X.env.scope x:=by exact Or.inl rfl)(hs:swapsWith e (some (.Name x pos')) pos.line X.env=pure false:=by rfl)(hf:X.fn x=true\/X.env.scope.names.lookup x=some .local:=by first|exact .inl rfl|exact .inr rfl|assumption):PS X (.Assign [.Name x pos'] e pos) (tAsg te (gName i)):=b2w hN hi hx he hs hf
local macro_rules|`(tactic| fail"k5")=>`(tactic| exact⟨rfl,by decide +kernel,rfl,by decide +kernel,by decide +kernel,by decide +kernel,by decide +kernel⟩)
local macro_rules|`(tactic| fail"ln")=>`(tactic| (intro vs H Q E h;repeat first|(have e:=h.1;subst e;rfl)|obtain⟨_,h⟩:=h))
set_option hygiene false in
local macro_rules|`(tactic| fail"fi")=>`(tactic| intro cdv A outer s H vs Q E hr h)
inductive SK where
 | span
inductive RK where
 | draws
inductive MK where
 | ex|sg
instance:DecidableEq MK:=fun a b=>match a,b with
 | .ex,.ex=>isTrue rfl
 | .sg,.sg=>isTrue rfl
 | .ex,.sg=>isFalse (fun z=>nomatch z)
 | .sg,.ex=>isFalse (fun z=>nomatch z)
local macro_rules|`(tactic| fail"sc")=>`(tactic| exact⟨rfl,rfl,rfl,by decide +kernel,rfl,by decide +kernel,by decide +kernel⟩)
def top (i:Nat):Stmt:=PySem.Challenge.pw_twinwires_k40_whole_both_machines_tell_a.main.body.getD i (.Pass ⟨0,0,0,0⟩)
abbrev a7f:Stmt:=top 3
theorem c0w:a0r ["thing"] ["thing"] (a0f a7f):=by fail"sc"
abbrev a6n:Stmt:=a1n (top 49) 0
theorem b7v:a0r ["self","n","most"] ["self","n","most"] (a0f a6n):=by fail"sc"
abbrev a8w:Stmt:=a1n (top 63) 0
theorem c2b:a0r ["self","n"] ["self","n"] (a0f a8w):=by fail"sc"
abbrev a5u:Stmt:=a1n (top 70) 0
theorem b2p:a0r ["self","n"] ["self","n"] (a0f a5u):=by fail"sc"
abbrev b3s:Stmt:=a1n (top 63) 1
theorem d0v:a0r ["self"] ["self"] (a0f b3s):=by fail"sc"
abbrev b2c:Stmt:=top 72
theorem c8j:a0r ["_law_script","_law_k"] ["_law_script","_law_k"] (a0f b2c):=by fail"sc"
abbrev b0y:Stmt:=a1n (top 49) 1
theorem c5b:a0r ["self"] ["self"] (a0f b0y):=by fail"sc"
abbrev a7j:Stmt:=top 19
theorem a4p:a0r ["whole","told","b","pair"] ["whole"] (a0f a7j):=by fail"sc"
abbrev d6y:Stmt:=top 6
theorem sc_bit_at:a0r ["number","k"] ["number","k"] (a0f d6y):=by fail"sc"
abbrev b8a:Stmt:=top 42
theorem c3d:a0r ["number","j","k","unlike"] ["number","j","k"] (a0f b8a):=by fail"sc"
abbrev b4r:Stmt:=a1n (top 53) 1
theorem d7e:a0r ["self"] ["self"] (a0f b4r):=by fail"sc"
abbrev s_moved:Stmt:=top 43
theorem c6j:a0r ["whole","place_of","told","b","pair"] ["whole","place_of"] (a0f s_moved):=by fail"sc"
abbrev a3c:Stmt:=a1n (top 36) 2
theorem b4b:a0r ["self","whole","bit"] ["self","whole"] (a0f a3c):=by fail"sc"
abbrev c7w:Stmt:=top 17
theorem d2g:a0r ["pair","often","turns"] ["pair","often"] (a0f c7w):=by fail"sc"
abbrev a5y:Stmt:=top 44
theorem a3u:a0r ["whole","k","often","told","b","pair"] ["whole","k","often"] (a0f a5y):=by fail"sc"
abbrev a6v:Stmt:=a1n (top 37) 2
theorem b8c:a0r ["self","whole"] ["self","whole"] (a0f a6v):=by fail"sc"
abbrev a9t:Stmt:=a1n (top 38) 2
theorem c3w:a0r ["self","whole"] ["self","whole"] (a0f a9t):=by fail"sc"
abbrev d5c:Stmt:=top 18
theorem sc_add_at:a0r ["whole","b","pair","before"] ["whole","b","pair"] (a0f d5c):=by fail"sc"
abbrev b0w:Stmt:=a1n (top 39) 2
theorem a3h:a0r ["self","whole","bit","told","b","pair","down"] ["self","whole"] (a0f b0w):=by fail"sc"
abbrev a2p:Stmt:=a1n (top 40) 2
theorem a7h:a0r ["self","whole","j","k"] ["self","whole"] (a0f a2p):=by fail"sc"
abbrev a3a:Stmt:=a1n (top 41) 2
theorem a8p:a0r ["self","whole","j","k"] ["self","whole"] (a0f a3a):=by fail"sc"
abbrev b2a:Stmt:=a1n (top 63) 2
theorem c6u:a0r ["self","deed"] ["self","deed"] (a0f b2a):=by fail"sc"
abbrev b3j:Stmt:=a1n (top 36) 1
theorem d1g:a0r ["self","row"] ["self","row"] (a0f b3j):=by fail"sc"
abbrev a8s:Stmt:=a1n (top 37) 1
theorem a5e:a0r ["self","row","k","x","z"] ["self","row"] (a0f a8s):=by fail"sc"
abbrev b3b:Stmt:=a1n (top 38) 1
theorem a7x:a0r ["self","row","k","x","z"] ["self","row"] (a0f b3b):=by fail"sc"
abbrev b3f:Stmt:=a1n (top 39) 1
theorem a5p:a0r ["self","row","k","x","z","unlike"] ["self","row"] (a0f b3f):=by fail"sc"
abbrev b2g:Stmt:=a1n (top 40) 1
theorem a3w:a0r ["self","row","j","k","x","z","alike"] ["self","row"] (a0f b2g):=by fail"sc"
abbrev b3c:Stmt:=a1n (top 41) 1
theorem b2h:a0r ["self","row","j","k"] ["self","row"] (a0f b3c):=by fail"sc"
abbrev a8b:Stmt:=a1n (top 70) 2
theorem b5p:a0r ["self","deed"] ["self","deed"] (a0f a8b):=by fail"sc"
abbrev b5k:Stmt:=a1n (top 35) 2
theorem d6w:a0r ["self"] ["self"] (a0f b5k):=by fail"sc"
abbrev b0b:Stmt:=a1n (top 35) 0
theorem c5c:a0r ["self","word","undoer","at"] ["self","word","undoer","at"] (a0f b0b):=by fail"sc"
abbrev b0q:Stmt:=a1n (top 41) 0
theorem c4n:a0r ["self","j","k"] ["self","j","k"] (a0f b0q):=by fail"sc"
abbrev b0j:Stmt:=a1n (top 36) 0
theorem c4z:a0r ["self","k"] ["self","k"] (a0f b0j):=by fail"sc"
abbrev a6y:Stmt:=a1n (top 37) 0
theorem b8q:a0r ["self","k"] ["self","k"] (a0f a6y):=by fail"sc"
abbrev b0s:Stmt:=a1n (top 38) 0
theorem c4w:a0r ["self","k"] ["self","k"] (a0f b0s):=by fail"sc"
abbrev b0m:Stmt:=a1n (top 39) 0
theorem c3x:a0r ["self","k"] ["self","k"] (a0f b0m):=by fail"sc"
abbrev a8m:Stmt:=a1n (top 40) 0
theorem c1q:a0r ["self","j","k"] ["self","j","k"] (a0f a8m):=by fail"sc"
abbrev a9p:Stmt:=top 47
theorem b2e:a0r ["words","at"] ["words"] (a0f a9p):=by fail"sc"
abbrev b0a:Stmt:=top 46
theorem b4k:a0r ["words","word"] ["words"] (a0f b0a):=by fail"sc"
abbrev c9b:Stmt:=top 45
theorem d2q:a0r ["words","n","deed"] ["words","n"] (a0f c9b):=by fail"sc"
abbrev b6g:Stmt:=a1n (top 49) 2
theorem d3n:a0r ["self","words"] ["self","words"] (a0f b6g):=by fail"sc"
abbrev s_added:Stmt:=top 20
theorem c6b:a0r ["one","other","told","b","pair"] ["one","other"] (a0f s_added):=by fail"sc"
abbrev s_ones:Stmt:=top 4
theorem c8y:a0r ["number","found","rest"] ["number"] (a0f s_ones):=by fail"sc"
abbrev b8s:Stmt:=top 30
theorem sc_letters_y:a0r ["row"] ["row"] (a0f b8s):=by fail"sc"
abbrev c2h:Stmt:=top 61
theorem b0f:a0r ["whole","row","told","b","pair","minuses"] ["whole","row"] (a0f c2h):=by fail"sc"
abbrev c8n:Stmt:=top 62
theorem sc_half_by:a0r ["whole","row","value"] ["whole","row","value"] (a0f c8n):=by fail"sc"
abbrev a6q:Stmt:=a1n (top 63) 3
theorem b8p:a0r ["self","row"] ["self","row"] (a0f a6q):=by fail"sc"
abbrev b2d:Stmt:=a1n (top 65) 2
theorem a3b:a0r ["self","number","which","left","lead","total","parts"] ["self","number","which"] (a0f b2d):=by fail"sc"
abbrev b0c:Stmt:=a1n (top 65) 3
theorem b4e:a0r ["self","number","left"] ["self","number"] (a0f b0c):=by fail"sc"
abbrev b5r:Stmt:=top 7
theorem d7c:a0r ["number"] ["number"] (a0f b5r):=by fail"sc"
abbrev b8n:Stmt:=a1n (top 65) 1
theorem c3b:a0r ["self","number","left"] ["self","number"] (a0f b8n):=by fail"sc"
abbrev a9x:Stmt:=a1n (top 65) 0
theorem b4f:a0r ["self","numbers","number"] ["self","numbers"] (a0f a9x):=by fail"sc"
abbrev c6c:Stmt:=top 68
theorem sc_widest:a0r ["rows"] ["rows"] (a0f c6c):=by fail"sc"
abbrev c5k:Stmt:=top 5
theorem sc_places:a0r ["number"] ["number"] (a0f c5k):=by fail"sc"
abbrev b3w:Stmt:=top 28
theorem b7c:a0r ["one","other","crossings"] ["one","other"] (a0f b3w):=by fail"sc"
abbrev s_times:Stmt:=top 29
theorem b9q:a0r ["one","other","xs","zs","minuses","quarters"] ["one","other"] (a0f s_times):=by fail"sc"
abbrev b5b:Stmt:=top 31
theorem a9c:a0r ["rows","product","row"] ["rows"] (a0f b5b):=by fail"sc"
abbrev b2k:Stmt:=top 32
theorem c9z:a0r ["row","n"] ["row","n"] (a0f b2k):=by fail"sc"
abbrev b5n:Stmt:=top 67
theorem a7g:a0r ["rows","row","width","parts","numbers","product"] ["rows","row"] (a0f b5n):=by fail"sc"
abbrev a6s:Stmt:=a1n (top 70) 3
theorem b0k:a0r ["self","row","found"] ["self","row"] (a0f a6s):=by fail"sc"
abbrev b2b:Stmt:=a1n (top 63) 4
theorem c7r:a0r ["self","row","value"] ["self","row","value"] (a0f b2b):=by fail"sc"
abbrev a4d:Stmt:=a1n (top 70) 4
theorem a4z:a0r ["self","row","value","staying","crossing","mended"] ["self","row","value"] (a0f a4d):=by fail"sc"
abbrev s_fits:Stmt:=top 26
theorem sc_fits:a0r ["number","n"] ["number","n"] (a0f s_fits):=by fail"sc"
abbrev a9h:Stmt:=top 25
theorem b7e:a0r ["thing","n"] ["thing","n"] (a0f a9h):=by fail"sc"
abbrev b8m:Stmt:=top 27
theorem sc_weight_of:a0r ["row"] ["row"] (a0f b8m):=by fail"sc"
abbrev b4s:Stmt:=top 50
theorem d6t:a0r ["row","n"] ["row","n"] (a0f b4s):=by fail"sc"
abbrev b3u:Stmt:=top 51
theorem d0q:a0r ["draw"] ["draw"] (a0f b3u):=by fail"sc"
abbrev a4g:Stmt:=a1n (top 49) 3
theorem b0x:a0r ["self","row","draw","sure","drawn"] ["self","row","draw"] (a0f a4g):=by fail"sc"
abbrev c8g:Stmt:=top 57
theorem sc_is_look:a0r ["step"] ["step"] (a0f c8g):=by fail"sc"
abbrev c2s:Stmt:=top 58
theorem sc_look_row:a0r ["look"] ["look"] (a0f c2s):=by fail"sc"
abbrev b5h:Stmt:=top 56
theorem d3z:a0r ["step","n"] ["step","n"] (a0f b5h):=by fail"sc"
abbrev a9s:Stmt:=top 55
theorem a9z:a0r ["machine","work","draw","steps","step","told"] ["machine","work","draw"] (a0f a9s):=by fail"sc"
abbrev b6d:Stmt:=top 73
theorem a7b:a0r ["_law_draw","_law_k","_law_more","_law_number"] ["_law_draw","_law_k"] (a0f b6d):=by fail"sc"
abbrev b5t:Stmt:=top 74
theorem a9k:a0r ["_law_draw","_law_n","_law_way","_law_k","_law_j"] ["_law_draw","_law_n"] (a0f b5t):=by fail"sc"
abbrev b8g:Stmt:=top 78
theorem c2t:a0r ["_law_draw","_law_k","_law_n","_law_number"] ["_law_draw","_law_k","_law_n"] (a0f b8g):=by fail"sc"
abbrev b6b:Stmt:=top 79
theorem a2x:a0r ["_law_draw","_law_n","_law_xs","_law_zs","_law_way","_law_bit","_law_other"] ["_law_draw","_law_n"] (a0f b6b):=by fail"sc"
abbrev c1w:Stmt:=top 82
theorem b8j:a0r ["_law_draw","_law_n","_law_xs","_law_zs"] ["_law_draw","_law_n"] (a0f c1w):=by fail"sc"
abbrev a5t:Stmt:=a1n (top 53) 0
theorem b2v:a0r ["self","numbers"] ["self","numbers"] (a0f a5t):=by fail"sc"
abbrev a6d:Stmt:=top 54
theorem c3e:a0r ["numbers","draws"] ["numbers"] (a0f a6d):=by fail"sc"
abbrev a7t:Stmt:=top 84
theorem c0c:a0r ["_law_one_here","_law_other"] ["_law_one_here","_law_other"] (a0f a7t):=by fail"sc"
abbrev b1s:Stmt:=top 85
theorem b3h:a0r ["_law_one_here","_law_other","_law_first"] ["_law_one_here","_law_other"] (a0f b1s):=by fail"sc"
abbrev b6a:Stmt:=a1n (top 70) 1
theorem d5w:a0r ["self"] ["self"] (a0f b6a):=by fail"sc"
abbrev a9y:Stmt:=top 75
theorem a4b:a0r ["_law_number","_law_quarters_here","_law_re","_law_im","_law_k"] ["_law_number","_law_quarters_here"] (a0f a9y):=by fail"sc"
abbrev b8t:Stmt:=top 80
theorem b1t:a0r ["_law_number","_law_found"] ["_law_number"] (a0f b8t):=by fail"sc"
abbrev b4p:Stmt:=top 81
theorem a3j:a0r ["_law_whole","_law_row","_law_minus","_law_xs","_law_zs","_law_found","_law_here","_law_number","_law_quarters_here"] ["_law_whole","_law_row"] (a0f b4p):=by fail"sc"
abbrev b3t:Stmt:=top 83
theorem b4y:a0r ["_law_exact","_law_signs_here","_law_whole"] ["_law_exact","_law_signs_here"] (a0f b3t):=by fail"sc"
abbrev b7u:Stmt:=top 86
theorem sc__law_step:a0r ["_law_machine","_law_words_here","_law_draw"] ["_law_machine","_law_words_here","_law_draw"] (a0f b7u):=by fail"sc"
abbrev c8f:Stmt:=top 87
theorem b1r:a0r ["_law_script","_law_n","_law_work","_law_number","_law_numbers","_law_exact","_law_signs_here","_law_found","_law_others","_law_draws","_law_told","_law_words_here","_law_k"] ["_law_script"] (a0f c8f):=by fail"sc"
structure Txt_D (K:A0a)(a7c:DK->Addr):Prop where
 cl:∀d,Cls K (a7c d)
 n_word:∀d,a6g K (a7c d) "word"
 n_undoer:∀d,a6g K (a7c d) "undoer"
 n_at:∀d,a6g K (a7c d) "at"
def a5k (a2t a1a a2u a2r a1y a2s:Addr):DK->Addr
 | .over=>a2t
 | .quarter=>a1a
 | .back=>a2u
 | .both=>a2r
 | .wher=>a1y
 | .swap=>a2s
structure Txt_M (K:A0a)(a5b:MK->Addr):Prop where
 cl:∀d,Cls K (a5b d)
 n_amounts:∀d,a6g K (a5b d) "amounts"
 n_n:∀d,a6g K (a5b d) "n"
 n_kept:∀d,a6g K (a5b d) "kept"
def a5j (a1v a1w:Addr):MK->Addr
 | .ex=>a1v
 | .sg=>a1w
structure Txt_N (K:A0a)(c2n:SK->Addr):Prop where
 cl:∀d,Cls K (c2n d)
 n_sums:∀d,a6g K (c2n d) "sums"
 n_taken:∀d,a6g K (c2n d) "taken"
def c0k (a6t:Addr):SK->Addr
 | .span=>a6t
structure Txt_R (K:A0a)(b1a:RK->Addr):Prop where
 cl:∀d,Cls K (b1a d)
 n_bits:∀d,a6g K (b1a d) "bits"
 n_told:∀d,a6g K (b1a d) "told"
def c9q (a5x:Addr):RK->Addr
 | .draws=>a5x
def sp__law_put (K:A0a):Sp:=fun vs H Q _=>∃(f a:Addr) (b:Nat),vs=[.ref f,.int b,.ref a]/\∃(p:Int×Int) (ws:Wh) (kvs:List (Key×V)),SqT K H a [.int p.1,.int p.2]/\H f=some (.dK kvs)/\WR K H ws kvs/\ws.length<=250/\
 ∀H' kvs',H' f=some (.dK kvs')->WR K H' (wadd ws b p) kvs'->But f H H'->Q .non H'
def kd:Nat->DK
 | 0=>.over|1=>.quarter|2=>.back|3=>.both|4=>.wher|_=>.swap
theorem ne_mod {n t:Nat}(hj:j<n)(h1:1<=t)(h2:t<n):(j+t)%n≠j:=by
 rcases A4d (j+t) n with h|h
 ·rw[B1c h];omega
 ·rw[Nat.mod_eq_sub_mod h,B1c (by omega)];omega
theorem ne_modI {n i:Nat}{r:Int}(hj:j<n)(h0:0<=r)(h2:r<(n:Int)-1)(e:((j:Int)+1+r)%(n:Int)=(i:Int)):j≠i:=by
 obtain⟨t,rfl⟩:∃t:Nat,r=(t:Int):=⟨r.toNat,by omega⟩
 have e2:((j+(1+t))%n:Nat)=i:=by
  have e3:(j:Int)+1+(t:Int)=((j+(1+t):Nat):Int):=by push_cast;omega
  rw[e3,<- Int.natCast_emod] at e;exact Int.ofNat_inj.mp e
 intro z;exact ne_mod hj (by omega) (by omega) (e2.trans z.symm)
def c0g (K:A0a):Sp:=fun vs H Q _=>∃(c:Int) (n:Nat),vs=[.int c,.int n]/\0<n/\n<=40/\∀p H' (d:Dd),a2f H H'->H' p=some (.tup (.str d.k.word::vn d.w))->d.Ok n->Q (.ref p) H'
theorem c7u:∀{a b:List Nat},a.map (fun x:Nat=>(x:Int))=b.map (fun x:Nat=>(x:Int))->a=b
 | [],[],_=>rfl
 | [],_::_,h=>by cases h
 | _::_,[],h=>by cases h
 | x::r,y::t,h=>by
  simp only[A0m,B3w] at h;rw[Int.ofNat_inj.mp h.1,c7u h.2]
theorem dd_eq {d e:Dd}(hk:d.k=e.k)(hw:d.w.map (fun x:Nat=>(x:Int))=e.w.map (fun x:Nat=>(x:Int))):d=e:=by
 obtain⟨k,w⟩:=d;obtain⟨k',w'⟩:=e;cases hk;have hw':w=w':=c7u hw;rw[hw']
theorem c9c:∀{l:List Nat},l.Nodup->(l.map fun x:Nat=>(x:Int)).Nodup
 | [],_=>by simp
 | x::r,h=>by
  rw[A3e] at h;rw[A0m,A3e];refine⟨fun z=>?_,c9c h.2⟩;obtain⟨y,hy,e⟩:=List.mem_map.mp z;have e2:y=x:=Int.ofNat_inj.mp e;rw[e2] at hy;exact h.1 hy
theorem vn_app (a b:List Nat):vn a++vn b=vn (a++b):=by unfold vn;rw[A1b]
theorem disp_at {p1 p2:Addr}{b:Nat}(h1:H p1=none)(h2:(upd H p1 (.dK [])) p2=none) :
  a2f H (upd (upd (upd H p1 (.dK [])) p2 (.tup [.int 1,.int 0])) p1 (.dK [(.inl ((b:Nat):Int),.ref p2)]))/\(upd (upd (upd H p1 (.dK [])) p2 (.tup [.int 1,.int 0])) p1 (.dK [(.inl ((b:Nat):Int),.ref p2)])) p1=some (.dK [(.inl ((b:Nat):Int),.ref p2)])/\
   WR K (upd (upd (upd H p1 (.dK [])) p2 (.tup [.int 1,.int 0])) p1 (.dK [(.inl ((b:Nat):Int),.ref p2)])) [(b,(1,0))] [(.inl ((b:Nat):Int),.ref p2)]:=by
 have hne:p2≠p1:=A1e (a0p a0b h2);refine⟨fun c o e=>?_,a0b,.cons (SqT.of ?_) .nil⟩
 ·rw[a0q (a0p e h1)];exact a0c h2 _ _ _ (a0c h1 _ _ _ e)
 ·rw[a0q hne];exact a0b
abbrev b9f:Lam:=lamIn (("Over.on_whole":Str) ++ ".<locals>." ++ "<lambda>") a3c
abbrev c6m:Lam:=lamIn (("Where.on_whole":Str) ++ ".<locals>." ++ "<lambda>") a2p
abbrev c5v:Lam:=lamIn (("Swap.on_whole":Str) ++ ".<locals>." ++ "<lambda>") a3a
abbrev a5d:Lam:=lamRet (("drawer_of":Str) ++ ".<locals>." ++ "<lambda>") a6d
abbrev lam_ref:Lam:=a5d
def c1a (T1 T2 T3 T4:Addr)(H:Hp):Prop:=a4j H T1 b9f/\a4j H T2 c6m/\a4j H T3 c5v/\a4j H T4 lam_ref/\[T1,T2,T3,T4].Nodup
def d0u (H:Hp)(c:Addr)(i:Nat):Prop:=∃o t,H c=some (exO c o)/\o.data=.cell (some (.int (i:Int) t))
inductive LamG (H:Hp) (f:Addr):(Nat->Nat)->Prop where
 | over {c:Addr} {i:Nat}:b6z H f b9f [("bit",c)]->d0u H c (2^i)->i<=1000->LamG H f (fun b=>b^^^2^i)
 | wher {c d:Addr} {i j:Nat}:b6z H f c6m [("k",d),("j",c)]->c≠d->d0u H c i->d0u H d j->i<=1000->j<=1000->LamG H f (fun b=>b^^^(b.testBit i).toNat*2^j)
 | swap {c d:Addr} {i j:Nat}:b6z H f c5v [("k",d),("j",c)]->c≠d->d0u H c i->d0u H d j->i<=1000->j<=1000->LamG H f (fun b=>ex b i j)
def LL (f:Addr)(vs:List V)(H:Hp)(Q:VK):Prop:=∃(b:Nat) (g:Nat->Nat),vs=[.int b]/\LamG H f g/\Q (.int ((g b:Nat):Int)) H
def d2j (K:A0a):Sp:=fun vs H Q _=>∃(a:Addr) (o:Nat) (p:Int×Int),vs=[.ref a,.int o]/\SqT K H a [.int p.1,.int p.2]/\∀t H',a2f H H'->SqT K H' t [.int (a2q o p).1,.int (a2q o p).2]->Q (.ref t) H'
abbrev c8v (K:A0a):Sp:=sp__law_put K
def b1q (K:A0a):Sp:=fun vs H Q _=>∃(a:Addr) (ws:Wh),vs=[.ref a]/\a8a K H a ws/\(ws.map (·.1)).Nodup/\ws.length<=200/\∀p H',a2f H H'->H p=none->a8a K H' p (wnz ws)->Q (.ref p) H'
def sp_moved (K:A0a):Sp:=fun vs H Q _=>∃(a f:Addr) (ws:Wh) (g:Nat->Nat),vs=[.ref a,.ref f]/\a8a K H a ws/\(ws.map fun e=>g e.1).Nodup/\ws.length<=200/\LamG H f g/\∀p H',a2f H H'->H p=none->a8a K H' p (wnz (ws.map fun e=>(g e.1,e.2)))->Q (.ref p) H'
def a9b (K:A0a):Sp:=fun vs H Q _=>∃(a:Addr) (k o:Nat) (ws:Wh),vs=[.ref a,.int k,.int o]/\a8a K H a ws/\(ws.map (·.1)).Nodup/\ws.length<=200/\k<=1000/\o<=3/\∀p H',a2f H H'->H p=none->a8a K H' p (wnz (ws.map fun e=>(e.1,a2q (o*(e.1.testBit k).toNat) e.2)))->Q (.ref p) H'
def a3k (K:A0a)(CD:DK->Addr)(T1 T2 T3 T4:Addr)(k:DK):Sp:=fun vs H Q _=>∃(x a:Addr) (d:Dd) (ws:Wh),vs=[.ref x,.ref a]/\d.k=k/\DdAt CD H x d/\d.w.Nodup/\(∀i∈d.w,i<=1000)/\a8a K H a ws/\(ws.map (·.1)).Nodup/\ws.length<=90/\c1a T1 T2 T3 T4 H/\
 ∀p H',a4t H H'->c1a T1 T2 T3 T4 H'->H p=none->a8a K H' p (wnz (a6k d ws))->Q (.ref p) H'
abbrev c4e (K:A0a)(CD:DK->Addr)(T1 T2 T3 T4:Addr):Sp:=a3k K CD T1 T2 T3 T4 .over
abbrev b7y (K:A0a)(CD:DK->Addr)(T1 T2 T3 T4:Addr):Sp:=a3k K CD T1 T2 T3 T4 .quarter
abbrev c4c (K:A0a)(CD:DK->Addr)(T1 T2 T3 T4:Addr):Sp:=a3k K CD T1 T2 T3 T4 .back
abbrev c4h (K:A0a)(CD:DK->Addr)(T1 T2 T3 T4:Addr):Sp:=a3k K CD T1 T2 T3 T4 .both
abbrev c1f (K:A0a)(CD:DK->Addr)(T1 T2 T3 T4:Addr):Sp:=a3k K CD T1 T2 T3 T4 .wher
abbrev c4d (K:A0a)(CD:DK->Addr)(T1 T2 T3 T4:Addr):Sp:=a3k K CD T1 T2 T3 T4 .swap
theorem a8a.to {a:Addr}{ws:Wh}(h:a8a K H a ws)(s:a4t H H'):a8a K H' a ws:=by
 obtain⟨kvs,h1,h2⟩:=h;exact⟨kvs,s _ _ h1 (by intro p z;cases z),h2.stay fun a xs x=>SqT.stayT s x⟩
theorem c1a.to {T1 T2 T3:Addr}(h:c1a T1 T2 T3 T4 H)(s:a2f H H'):c1a T1 T2 T3 T4 H':=⟨h.1.same s,h.2.1.same s,h.2.2.1.same s,h.2.2.2.1.same s,h.2.2.2.2⟩
theorem LamG.fn {g:Nat->Nat}(h:LamG H f g):∃o fd,H f=some (exO f o)/\o.data=.func fd:=by
 cases h with
 | over a _ _=>obtain⟨c',oc,pm,ctv,hf,_⟩:=a;exact⟨_,_,hf,rfl⟩
 | wher a _ _ _ _ _=>obtain⟨c',oc,pm,ctv,hf,_⟩:=a;exact⟨_,_,hf,rfl⟩
 | swap a _ _ _ _ _=>obtain⟨c',oc,pm,ctv,hf,_⟩:=a;exact⟨_,_,hf,rfl⟩
theorem SqT.unc {K:A0a}{G:Hp}{cl:List (Str×Addr)}(hc:∀p∈cl,∃o,G p.2=some (exO p.2 o)){a:Addr}{xs:List V}(h:SqT K G a xs):SqT K (unc cl G) a xs:=by
 have out:∀{b u},G b=some u->(∀o,u≠exO b o)->L2.unc cl G b=some u:=fun {b u} e n=>by
  rw[a4k fun z=>?_]
  ·exact e
  ·obtain⟨p,hp,rfl⟩:=List.mem_map.mp z;obtain⟨o,eo⟩:=hc p hp;rw[e] at eo;exact n o (A0j eo)
 rcases h with (h|⟨o,h⟩)|h
 ·exact .inl (.inl (out h (by intro o z;cases z)))
 ·exact .inl (.inr ⟨o,out h (by intro o z;cases z)⟩)
 ·exact .inr h
theorem a8a.unc {K:A0a}{G:Hp}{cl:List (Str×Addr)}(hc:∀p∈cl,∃o,G p.2=some (exO p.2 o)){a:Addr}{ws:Wh}(h:a8a K G a ws):a8a K (L2.unc cl G) a ws:=by
 obtain⟨kvs,h1,h2⟩:=h;refine⟨kvs,?_,h2.stay fun b xs x=>SqT.unc hc x⟩;rw[a4k fun z=>?_]
 ·exact h1
 ·obtain⟨p,hp,rfl⟩:=List.mem_map.mp z;obtain⟨o,eo⟩:=hc p hp;rw[h1] at eo;cases eo
theorem b9w {g:Nat->Nat}(hg:∀a b,g a=g b->a=b):∀{ws:Wh},(ws.map (·.1)).Nodup->(ws.map fun e=>g e.1).Nodup
 | [],_=>by simp
 | e::ws,h=>by
  rw[A0m,A3e] at h ⊢;refine⟨fun z=>h.1 ?_,b9w hg h.2⟩;obtain⟨e2,h2,h3⟩:=List.mem_map.mp z;exact List.mem_map.mpr ⟨e2,h2,hg _ _ h3⟩
theorem nd4 {a:Addr}(h:[a,b,c,d].Nodup):a≠b/\a≠c/\b≠c/\a≠d/\b≠d/\c≠d:=by
 rw[A3e,A3e,A3e] at h;exact⟨fun z=>h.1 (by simp[z]),fun z=>h.1 (by simp[z]),fun z=>h.2.1 (by simp[z]),fun z=>h.1 (by simp[z]),fun z=>h.2.1 (by simp[z]),fun z=>h.2.2.1 (by simp[z])⟩
theorem inv_inj {g:Nat->Nat}(h:∀b,g (g b)=b):∀a b,g a=g b->a=b:=fun a b e=>by rw[<- h a,e,h]
theorem wher_two {i:Nat}(hij:i≠j)(b:Nat):(b^^^(b.testBit i).toNat*2^j)^^^((b^^^(b.testBit i).toNat*2^j).testBit i).toNat*2^j=b:=by
 have e:(b^^^(b.testBit i).toNat*2^j).testBit i=b.testBit i:=by
  rw[A0e,a3z,decide_eq_false (A1e hij),A2x,A2u]
 rw[e,xor_two]
theorem b5d {d:Dd}{f:Nat×Int×Int->Nat×Int×Int}(hf:∀e,a6c d.k (d.w.getD 0 0) (d.w.getD 1 0) e=[f e]){ws:Wh}(nd:(ws.map fun e=>(f e).1).Nodup):a6k d ws=ws.map f:=by
 have key:∀(es acc:Wh),((acc++es.map f).map (·.1)).Nodup->es.foldl (fun acc e=>c2x acc (a6c d.k (d.w.getD 0 0) (d.w.getD 1 0) e)) acc=acc++es.map f:=by
  intro es
  induction es with
  | nil=>intro acc _;simp
  | cons e es ih=>
   intro acc h
   have h1:∀x∈acc,x.1≠(f e).1:=fun x hx z=>by
    rw[A0m,A1b,List.nodup_append] at h;exact h.2.2 x.1 (List.mem_map.mpr ⟨x,hx,rfl⟩) (f e).1 (by simp) z
   have h2:c2x acc (a6c d.k (d.w.getD 0 0) (d.w.getD 1 0) e)=acc++[f e]:=by
    rw[hf];exact wadd_new h1
   rw[A7c,h2,ih (acc++[f e]) (by rw[B0j];exact h),B0j];rfl
 have:=key ws [] (by rw[A6z,A3q];exact nd);rw[A6z] at this;exact this
theorem b6r (s:a2f H H')(h:H' p=none):H p=none:=by
 cases e:H p with
 | none=>rfl
 | some o=>rw[s _ _ e] at h;cases h
theorem LamG.ex {g:Nat->Nat}(h:LamG H f g)(s:∀c o,H c=some (exO c o)->H' c=some (exO c o)):LamG H' f g:=by
 have la:∀{l:Lam} {cl:List (Str×Addr)},b6z H f l cl->b6z H' f l cl:=fun⟨c,oc,pm,ctv,h1,h2,h3⟩=>⟨c,oc,pm,ctv,s _ _ h1,s _ _ h2,h3⟩;have ce:∀{c i},d0u H c i->d0u H' c i:=fun⟨o,t,h1,h2⟩=>⟨o,t,s _ _ h1,h2⟩
 cases h with
 | over a b c=>exact .over (la a) (ce b) c
 | wher a n b c d e=>exact .wher (la a) n (ce b) (ce c) d e
 | swap a n b c d e=>exact .swap (la a) n (ce b) (ce c) d e
theorem d4b {f:Nat×Int×Int->Nat×Int×Int}{ws:Wh}{i:Nat}(nd:(ws.map fun e=>(f e).1).Nodup)(h:ws[i]? = some e):(ws.take (i+1)).map f=wput ((ws.take i).map f) (f e).1 (f e).2:=by
 have hi:=(List.getElem?_eq_some_iff.mp h).1;rw[a1u h,A1b,d6a]
 ·rfl
 ·intro x hx z;obtain⟨y,hy,rfl⟩:=List.mem_map.mp hx;obtain⟨j,hj⟩:=List.getElem?_of_mem hy;have hj2:=(List.getElem?_eq_some_iff.mp hj).1;rw[A0u] at hj2;rw[List.getElem?_take_of_lt (by omega)] at hj;have e1:(ws.map fun e=>(f e).1)[j]? = some (f y).1:=by rw[List.getElem?_map,hj];rfl
  have e2:(ws.map fun e=>(f e).1)[i]? = some (f e).1:=by rw[List.getElem?_map,h];rfl
  rw[z] at e1;obtain⟨l1,g1⟩:=List.getElem?_eq_some_iff.mp e1;obtain⟨l2,g2⟩:=List.getElem?_eq_some_iff.mp e2;have:=(B0y nd).mp (g1.trans g2.symm);omega
theorem wnz_step {ws:Wh}{i:Nat}(nd:(ws.map (·.1)).Nodup)(h:ws[i]? = some e):wnz (ws.take (i+1))=if e.2≠(0,0) then wput (wnz (ws.take i)) e.1 e.2 else wnz (ws.take i):=by
 have hs:=d4b (f:=id) (by simpa using nd) h;unfold wnz;rw[a1u h,A9s]
 by_cases c:e.2=(0,0)
 ·rw[if_neg (fun z=>z c)];simp[c]
 ·rw[if_pos c,d6a]
  ·simp[c]
  ·intro x hx z;have hx':=(List.mem_filter.mp hx).1;obtain⟨j,hj⟩:=List.getElem?_of_mem hx';have hj2:=(List.getElem?_eq_some_iff.mp hj).1;rw[A0u] at hj2;rw[List.getElem?_take_of_lt (by omega)] at hj;have e1:(ws.map (·.1))[j]? = some x.1:=by rw[List.getElem?_map,hj];rfl
   have e2:(ws.map (·.1))[i]? = some e.1:=by rw[List.getElem?_map,h];rfl
   rw[z] at e1;obtain⟨l1,g1⟩:=List.getElem?_eq_some_iff.mp e1;obtain⟨l2,g2⟩:=List.getElem?_eq_some_iff.mp e2;have:=(B0y nd).mp (g1.trans g2.symm);omega
theorem wnz_len (ws:Wh):(wnz ws).length<=ws.length:=A4n _ _
theorem down_eq (b i:Nat):b=b|||2^i ↔ b.testBit i=true:=by
 constructor
 ·intro e;rw[e,A4c,A3x,Bool.or_true]
 ·intro e;apply A0p;intro q;rw[A4c,A2j]
  by_cases h:i=q
  ·subst h;simp[e]
  ·simp[h]
def ExAt (CM:MK->Addr)(H:Hp)(x:Addr)(n:Nat)(a:Addr):Prop:=∃dx,H x=some (.ins (CM .ex) dx [("n",.int n),("amounts",.ref a)])
def b7d (K:A0a)(CM:MK->Addr):Sp:=fun vs H Q _=>∃(x a:Addr) (n:Nat) (ws:Wh),vs=[.ref x]/\ExAt CM H x n a/\a8a K H a ws/\∀p H',a2f H H'->H p=none->a8a K H' p ws->Q (.ref p) H'
def ButT (x:Addr)(H H':Hp):Prop:=∀a o,a≠x->H a=some o->(∀ps,o≠.tbl ps)->H' a=some o
def b4q (K:A0a)(CD:DK->Addr)(CM:MK->Addr)(T1 T2 T3 T4:Addr):Sp:=fun vs H Q _=>∃(x y a:Addr) (n:Nat) (d:Dd) (ws:Wh),vs=[.ref x,.ref y]/\ExAt CM H x n a/\DdAt CD H y d/\d.w.Nodup/\(∀i∈d.w,i<=1000)/\a8a K H a ws/\(ws.map (·.1)).Nodup/\ws.length<=90/\c1a T1 T2 T3 T4 H/\
 ∀p H',ButT x H H'->c1a T1 T2 T3 T4 H'->H p=none->ExAt CM H' x n p->a8a K H' p (wnz (a6k d ws))->Q .non H'
def b5z (K:A0a):Sp:=fun vs H Q _=>∃(a:Addr) (k:Nat) (ns:List Int),vs=[.ref a,.int k]/\SqL K H a (ns.map V.int)/\∀c:Int,Q (.int c) H
def b4j (K:A0a):Sp:=fun vs H Q _=>∃(a:Addr) (q:Nat) (p:Int×Int),vs=[.ref a,.int q]/\SqT K H a [.int p.1,.int p.2]/\∀t H',a2f H H'->H' t=some (.tup [.int (a2q q p).1,.int (a2q q p).2])->Q (.ref t) H'
def k5:Nat->DK
 | 0=>.over|1=>.quarter|2=>.back|3=>.both|_=>.both
def k4:Nat->DK
 | 3=>.swap|_=>.wher
theorem at_k5 (h:m<5):atI [V.str "over",.str "quarter",.str "back",.str "both",.str "both"] (m:Int)=some (.str (k5 m).word):=by
 match m,h with
 | 0,_=>rfl
 | 1,_=>rfl
 | 2,_=>rfl
 | 3,_=>rfl
 | 4,_=>rfl
theorem at_k4 (h:m<4):atI [V.str "where",.str "where",.str "where",.str "swap"] (m:Int)=some (.str (k4 m).word):=by
 match m,h with
 | 0,_=>rfl
 | 1,_=>rfl
 | 2,_=>rfl
 | 3,_=>rfl
theorem k5_n (m:Nat):(k5 m).n=1:=by
 match m with
 | 0=>rfl
 | 1=>rfl
 | 2=>rfl
 | 3=>rfl
 | _+4=>rfl
theorem k4_n (m:Nat):(k4 m).n=2:=by
 match m with
 | 0=>rfl
 | 1=>rfl
 | 2=>rfl
 | 3=>rfl
 | _+4=>rfl
theorem c5s {fs:List (Str×V)}(h:But f H H')(hf:H f=some (.ins C dx fs)){a:Addr}{xs:List V}(s:SqT K H a xs):SqT K H' a xs:=by
 rcases s with (e|⟨o,e⟩)|e
 ·exact .inl (.inl (h _ _ (fun z=>by rw[z,hf] at e;cases e) e))
 ·exact .inl (.inr ⟨o,h _ _ (fun z=>by rw[z,hf] at e;cases e) e⟩)
 ·exact .inr e
theorem b6s {fs:List (Str×V)}(h:a4j H T l)(s:But f H H')(e:H f=some (.ins C dx fs)):a4j H' T l:=by
 obtain⟨ps,h1,h2,h3⟩:=h;exact⟨ps,s _ _ (fun z=>by rw[z,e] at h1;cases h1) h1,h2,h3.imp id fun⟨c,o,g1,g2,g3⟩=>⟨c,o,g1,s _ _ (fun z=>by rw[z,e] at g2;cases g2) g2,g3⟩⟩
theorem d0j {T1 T2 T3:Addr}{fs:List (Str×V)}(h:c1a T1 T2 T3 T4 H)(s:But f H H')(e:H f=some (.ins C dx fs)):c1a T1 T2 T3 T4 H':=⟨b6s h.1 s e,b6s h.2.1 s e,b6s h.2.2.1 s e,b6s h.2.2.2.1 s e,h.2.2.2.2⟩
theorem turn_step (i:Nat)(p:Int×Int):a2q (i+1) p=(0-(a2q i p).2,(a2q i p).1):=by
 rw[show i+1=1+i by omega,<- a2v 1 i p];show (-(a2q i p).2,(a2q i p).1)=_;rw[Int.zero_sub]
theorem turn_mod4 (o:Nat)(p:Int×Int):a2q (o%4) p=a2q o p:=a2m (a:=o%4) (b:=o) (Nat.mod_mod _ _) p
theorem len1 {α:Type}{l:List α}(h:l.length=1):∃x,l=[x]:=List.length_eq_one_iff.mp h
theorem len2 {α:Type}{l:List α}(h:l.length=2):∃x y,l=[x,y]:=by
 match l,h with
 | [x,y],_=>exact⟨x,y,rfl⟩
theorem ExAt.stay {CM:MK->Addr}{n:Nat}{a:Addr}(h:ExAt CM H x n a)(s:a2f H H'):ExAt CM H' x n a:=by
 obtain⟨dx,e⟩:=h;exact⟨dx,s _ _ e⟩
theorem b6k {xs:List V}(h:a4j H T l)(s:But f H H')(e:H f=some (.lst xs)):a4j H' T l:=by
 obtain⟨ps,h1,h2,h3⟩:=h;exact⟨ps,s _ _ (fun z=>by rw[z,e] at h1;cases h1) h1,h2,h3.imp id fun⟨c,o,g1,g2,g3⟩=>⟨c,o,g1,s _ _ (fun z=>by rw[z,e] at g2;cases g2) g2,g3⟩⟩
theorem tabsL_but {T1 T2 T3:Addr}{xs:List V}(h:c1a T1 T2 T3 T4 H)(s:But f H H')(e:H f=some (.lst xs)):c1a T1 T2 T3 T4 H':=⟨b6k h.1 s e,b6k h.2.1 s e,b6k h.2.2.1 s e,b6k h.2.2.2.1 s e,h.2.2.2.2⟩
theorem take_snoc {α:Type}{l:List α}{i:Nat}{x:α}(h:l[i]? = some x):l.take (i+1)=l.take i++[x]:=by rw[List.take_succ,h];rfl
inductive RL (K:A0a) (H:Hp):List Row->List V->Prop
 | nil:RL K H [] []
 | cons {r:Row} {t:Addr} {rs:List Row} {xs:List V}:H t=some (.tup r.V)->RL K H rs xs->RL K H (r::rs) (.ref t::xs)
theorem RL.stay {rs:List Row}{xs:List V}(h:RL K H rs xs)(s:∀a ys,H a=some (.tup ys)->H' a=some (.tup ys)):RL K H' rs xs:=by
 induction h with
 | nil=>exact .nil
 | cons q _ ih=>exact .cons (s _ _ q) ih
theorem RL.len {rs:List Row}{xs:List V}(h:RL K H rs xs):xs.length=rs.length:=by
 induction h with
 | nil=>rfl
 | cons q _ ih=>simp[ih]
theorem RL.get {rs:List Row}{xs:List V}(h:RL K H rs xs):∀{i:Nat} {x:V},xs[i]? = some x->∃r t,rs[i]? = some r/\x=.ref t/\H t=some (.tup r.V):=by
 induction h with
 | nil=>intro i x e;simp at e
 | @cons r t rs xs q _ ih=>
  intro i x e
  cases i with
  | zero=>
   simp only[List.getElem?_cons_zero,A9z] at e;exact⟨r,t,rfl,e.symm,q⟩
  | succ i=>
   rw[List.getElem?_cons_succ] at e ⊢;exact ih e
theorem RL.snoc {rs:List Row}{xs:List V}(h:RL K H rs xs){t:Addr}(q:H t=some (.tup r.V)):RL K H (rs++[r]) (xs++[.ref t]):=by
 induction h with
 | nil=>exact .cons q .nil
 | cons q' _ ih=>exact .cons q' ih
def c6k (K:A0a)(CM:MK->Addr)(H:Hp)(x:Addr)(n:Nat)(rs:List Row):Prop:=∃dx a xs,H x=some (.ins (CM .sg) dx [("n",.int n),("kept",.ref a)])/\H a=some (.lst xs)/\RL K H rs xs
def starts (n:Nat):List Row:=(A5d n).map fun k=>⟨0,0,2^k⟩
def b4a (K:A0a)(CM:MK->Addr):Sp:=fun vs H Q _=>∃(x:Addr) (n:Nat),vs=[.ref x]/\(∃k dx fs,H x=some (.ins (CM k) dx (("n",.int n)::fs)))/\Q (.int n) H
abbrev d3g (K:A0a)(CM:MK->Addr)(_:MK):Sp:=b4a K CM
abbrev d2n (K:A0a)(CM:MK->Addr)(_:Unit):Sp:=b7d K CM
def c0h (K:A0a)(CM:MK->Addr):Sp:=fun vs H Q _=>∃(x:Addr) (n:Nat) (rs:List Row),vs=[.ref x]/\c6k K CM H x n rs/\rs.length<=10/\∀p xs H',a2f H H'->H p=none->H' p=some (.lst xs)->RL K H' rs xs->Q (.ref p) H'
abbrev sp_S_rows (K:A0a)(CM:MK->Addr)(_:Unit):Sp:=c0h K CM
def b4z (K:A0a)(CD:DK->Addr)(CM:MK->Addr):Sp:=fun vs H Q _=>∃(x y:Addr) (n:Nat) (d:Dd) (rs:List Row),vs=[.ref x,.ref y]/\c6k K CM H x n rs/\rs.length<=10/\DdAt CD H y d/\(∀i∈d.w,i<=1000)/\∀H',But x H H'->c6k K CM H' x n (rs.map (act d))->Q .non H'
abbrev c9v (K:A0a)(CD:DK->Addr)(CM:MK->Addr)(T1 T2 T3 T4:Addr):MK->Sp
 | .ex=>b4q K CD CM T1 T2 T3 T4
 | .sg=>b4z K CD CM
theorem butI_wh {fs:List (Str×V)}(h:But f H H')(hf:H f=some (.ins C dx fs)){a:Addr}{ws:Wh}(w:a8a K H a ws):a8a K H' a ws:=by
 obtain⟨kv,e,r⟩:=w;exact⟨kv,h _ _ (fun z=>by rw[z,hf] at e;cases e) e,r.stay fun y ys s=>c5s h hf s⟩
theorem c6k.stay {K:A0a}{CM:MK->Addr}{H H':Hp}{x:Addr}{n:Nat}{rs:List Row}(h:c6k K CM H x n rs)(s:a2f H H'):c6k K CM H' x n rs:=by
 obtain⟨dx,a,xs,h1,h2,h3⟩:=h;exact⟨dx,a,xs,s _ _ h1,s _ _ h2,h3.stay fun y ys q=>s _ _ q⟩
theorem c6k.butT {CM:MK->Addr}{fs:List (Str×V)}{n:Nat}{rs:List Row}(h:c6k K CM H x n rs)(s:ButT f H H')(hf:H f=some (.ins C dx0 fs))(ne:x≠f):c6k K CM H' x n rs:=by
 obtain⟨dx,a,xs,h1,h2,h3⟩:=h;exact⟨dx,a,xs,s _ _ ne h1 (by intro ps z;cases z),s _ _ (fun z=>by rw[z,hf] at h2;cases h2) h2 (by intro ps z;cases z),h3.stay fun y ys q=>s _ _ (fun z=>by rw[z,hf] at q;cases q) q (by intro ps z;cases z)⟩
def Sm3 (H:Hp)(a:Addr)(s:Sm):Prop:=H a=some (.tup [.int ((2^s.j:Nat):Int),.int (s.t:Int),.int (s.p:Int)])
def b2x (l:Addr)(t:Int):List (Str×V):=[("sums",.ref l),("taken",.int t)]
def SnAt (CD:SK->Addr)(H:Hp)(p l:Addr)(vs:List Nat)(ss:List Sm):Prop:=∃dx as,H p=some (.ins (CD .span) dx (b2x l (vs.length:Nat)))/\H l=some (.lst (refs as))/\a4a (Sm3 H) as ss/\SpOk vs ss/\ss.length<=vs.length
def Oth (p l:Addr)(H H':Hp):Prop:=∀c o,c≠p->c≠l->H c=some o->H' c=some o
def b6f (K:A0a)(CD:SK->Addr):Sp:=fun vs H Q _=>∃(p l:Addr) (x w:Nat) (us:List Nat) (ss:List Sm),vs=[.ref p,.int x,.int w]/\SnAt CD H p l us ss/\us.length<=100/\∀q H',a2f H H'->H' q=some (.tup [.int ((red ss x w).1:Int),.int ((red ss x w).2:Int)])->Q (.ref q) H'
abbrev c3g (K:A0a)(CD:SK->Addr)(_:SK):Sp:=b6f K CD
def c3j (K:A0a)(CD:SK->Addr):Sp:=fun vs H Q _=>∃(p l:Addr) (x:Nat) (us:List Nat) (ss:List Sm),vs=[.ref p,.int x]/\SnAt CD H p l us ss/\us.length<=100/\∀H' ss',Oth p l H H'->SnAt CD H' p l (us++[x]) ss'->Q .non H'
abbrev sp_N_take (K:A0a)(CD:SK->Addr)(_:SK):Sp:=c3j K CD
def a8n (K:A0a)(CD:SK->Addr):Sp:=fun vs H Q _=>∃(p n dx:Addr) (us:List Nat),vs=[.ref p,.ref n]/\H p=some (.ins (CD .span) dx [])/\H n=some (.lst (vn us))/\us.length<=100/\∀H' l ss,(∀c o,c≠p->H c=some o->H' c=some o)->H l=none->SnAt CD H' p l us ss->Q .non H'
def sp_ones (K:A0a):Sp:=fun vs H Q _=>∃n:Nat,vs=[.int n]/\Q (.int (pop n:Nat)) H
def pls (n:Nat):List Nat:=plc n (A1p (n:Int))
def b9u (K:A0a):Sp:=fun vs H Q _=>∃v:Nat,vs=[.int v]/\0<v/\∀j:Nat,v.testBit j=true->Q (.int ((2^j:Nat):Int)) H
def b7m (K:A0a):Sp:=fun vs H Q _=>∃(a b:Addr) (r q:Row),vs=[.ref a,.ref b]/\SqT K H a r.V/\SqT K H b q.V/\Q (.bl (decide (pop (crs r q)%2=0))) H
def c2z (K:A0a):Sp:=fun vs H Q _=>∃(a:Addr) (r:Row),vs=[.ref a]/\SqT K H a r.V/\Q (.int (pop (r.x&&&r.z):Nat)) H
def sp_times (K:A0a):Sp:=fun vs H Q E=>∃(a b:Addr) (r q:Row),vs=[.ref a,.ref b]/\SqT K H a r.V/\SqT K H b q.V/\(a3d r q=false->∀p,H p=none->Q (.ref p) (upd H p (.tup (tm r q).V)))/\(¬pop (crs r q)%2=0->False)
def b5j (K:A0a):Sp:=fun vs H Q _=>∃(a:Addr) (n:Nat) (r:Row),vs=[.ref a,.int n]/\SqT K H a r.V/\r.x<2^n/\r.z<2^40/\n<=40/\Q (.int ((r.x^^^r.z*2^n:Nat):Int)) H
def sp_fits (K:A0a):Sp:=fun vs H Q _=>∃(x:Int) (n:Nat),vs=[.int x,.int n]/\n<=1000/\Q (.bl (decide (0<=x/\x<((2^n:Nat):Int)))) H
theorem refs_at {i:Nat}{a:Addr}(h:as[i]? = some a):(refs as)[i]? = some (.ref a):=by unfold refs;rw[List.getElem?_map,h];rfl
theorem vn_at {l:List Nat}{i:Nat}{x:V}(h:(vn l)[i]? = some x):∃k:Nat,x=.int k/\l[i]? = some k:=by
 unfold vn at h;rw[List.getElem?_map] at h
 cases e:l[i]? with
 | none=>rw[e] at h;cases h
 | some k=>rw[e] at h;exact⟨k,(A0j h).symm,rfl⟩
theorem st_lput {td ty tv:TE}{D:c1z}(h:tv σ H fun v H1=>td σ H1 fun x H2=>ty σ H2 fun y H3=>∃a xs,∃k:Nat,x=.ref a/\y=.int (k:Int)/\H3 a=some (.lst xs)/\k<xs.length/\D.nx σ (upd H3 a (.lst (xs.set k v)))):sLPut td ty tv D σ H:=h
theorem d4m:∀(a:List Sm) (s:Sm) (l w:Nat),red (a++[s]) l w=if (red a l w).1.testBit s.j=true then ((red a l w).1^^^s.t,(red a l w).2^^^s.p) else red a l w
 | [],s,l,w=>by
  show (if l.testBit s.j=true then (l^^^s.t,w^^^s.p) else (l,w))=_;rfl
 | u::a,s,l,w=>by
  rw[List.cons_append];unfold red
  split
  ·exact d4m a s _ _
  ·exact d4m a s _ _
theorem red_at {ss:List Sm}{i:Nat}{s:Sm}(x w:Nat)(h:ss[i]? = some s):red (ss.take (i+1)) x w=if (red (ss.take i) x w).1.testBit s.j=true then ((red (ss.take i) x w).1^^^s.t,(red (ss.take i) x w).2^^^s.p) else red (ss.take i) x w:=by
 rw[a1u h,d4m]
theorem and_pow_ne (l j:Nat):(((l&&&2^j:Nat):Int)=0)=(l.testBit j=false):=by
 rw[and_pow];cases l.testBit j
 ·simp
 ·have h:=A1m j;apply propext
  constructor
  ·intro z;rw[A4x,A8t] at z;omega
  ·intro z;cases z
theorem sums_look (l:Addr)(t:Int):(b2x l t).lookup ("sums":Str)=some (.ref l):=rfl
theorem d2t (l:Addr)(t:Int):(b2x l t).lookup ("taken":Str)=some (.int t):=by
 have h1:(("taken":Str) == "sums")=false:=by decide +kernel
 unfold b2x;rw[A1n,h1];rfl
theorem d4u (l:Addr)(t:Int){m:Str}(h1:(m == "sums")=false)(h2:(m == "taken")=false):(b2x l t).lookup m=none:=by
 unfold b2x;rw[A1n,h1,A1n,h2];rfl
theorem taken_put (l:Addr)(t u:Int):b7h "taken" (.int u) (b2x l t)=b2x l u:=by
 have h1:¬(("sums":Str) = "taken"):=by decide +kernel
 simp only[b2x,b7h,if_neg h1];rfl
theorem first_put (l:Addr)(t:Int):b7h "taken" (.int t) (b7h "sums" (.ref l) [])=b2x l t:=by
 have h1:¬(("sums":Str) = "taken"):=by decide +kernel
 simp only[b2x,b7h,if_neg h1]
theorem or_sn {x n:Nat}(h:x<2^n):x|||z*2^n=x^^^z*2^n:=by
 have h3:x&&&z*2^n=0:=by
  apply A0p;intro i;rw[A2f,<- A3h,A3r,A3z]
  rcases A4d i n with hi|hi
  ·simp[Nat.not_le.2 hi]
  ·rw[A2k (A0g h (A0w (by decide) hi))];rfl
 have:=b3r x (z*2^n);omega
theorem at4b (m:Nat)(a b c d:Nat):∃x:Nat,atI [V.int (a:Int),.int (b:Int),.int (c:Int),.int (d:Int)] ((m:Int)%4)=some (.int (x:Int))/\x∈[a,b,c,d]:=by
 have h:m%4<4:=A7p _ (by decide);have e:((m:Int)%4)=((m%4:Nat):Int):=by omega
 rw[e];generalize m%4=r at h ⊢
 match r,h with
 | 0,_=>exact⟨a,rfl,by simp⟩
 | 1,_=>exact⟨b,rfl,by simp⟩
 | 2,_=>exact⟨c,rfl,by simp⟩
 | 3,_=>exact⟨d,rfl,by simp⟩
def b7p (K:A0a):Sp:=fun vs H Q E=>∃v n,vs=[v,.int ((n:Nat):Int)]/\n<=1000/\
 ((∃(a:Addr) (r:Row),v=.ref a/\H a=some (.tup r.V)/\r.Ok n/\∀H',a2f H H'->Q (.ref a) H')\/False)
def c3k (K:A0a):Sp:=fun vs H Q _=>∃(a:Addr) (r:Row),vs=[.ref a]/\SqT K H a r.V/\Q (.int (pop (r.x|||r.z):Nat)) H
def Mn (CM:MK->Addr)(H:Hp)(x:Addr)(n:Nat):Prop:=(∃dx a,H x=some (.ins (CM .ex) dx [("n",.int (n:Int)),("amounts",.ref a)]))\/∃dx a,H x=some (.ins (CM .sg) dx [("n",.int (n:Int)),("kept",.ref a)])
def b6e (K:A0a):Sp:=fun vs H Q E=>∃v,vs=[v]/\(False\/(∃a k is,v=.ref a/\WdAt H a k is/\∀H',a2f H H'->Q .non H'))
def b2y (K:A0a)(CD:DK->Addr):Sp:=fun vs H Q E=>∃v,vs=[v]/\(False\/(∃a k is,v=.ref a/\WdAt H a k is/\
 ((∀i∈is,0<=i)->∀p d H',a2f H H'->DdAt CD H' p d->d.k=k->d.w.map (fun x:Nat=>(x:Int))=is->Q (.ref p) H')/\((¬ ∀i∈is,0<=i)->∀H',a2f H H'->False)))
def c6y (K:A0a)(CD:DK->Addr):Sp:=fun vs H Q E=>∃v n,vs=[v,.int ((n:Nat):Int)]/\(False\/(∃a k is,v=.ref a/\WdAt H a k is/\
 ((∀i∈is,0<=i/\i<(n:Int))->∀p d H',a2f H H'->DdAt CD H' p d->d.k=k->d.w.map (fun x:Nat=>(x:Int))=is->Q (.ref p) H')/\((¬ ∀i∈is,0<=i/\i<(n:Int))->∀H',a2f H H'->False)))
def a6e (K:A0a)(CM:MK->Addr):Sp:=fun vs H Q E=>∃(p:Addr) (v:V) (m:Nat) (k:MK),vs=[.ref p,v,.int m]/\∃dx,H p=some (.ins (CM k) dx [])/\
 ((∃n:Nat,v=.int n/\1<=n/\n<=m/\Q .non (upd H p (.ins (CM k) dx [("n",.int n)])))\/False)
def a7v (K:A0a)(CM:MK->Addr):Sp:=fun vs H Q E=>∃(p:Addr) (v:V),vs=[.ref p,v]/\∃dx,H p=some (.ins (CM .ex) dx [])/\
 ((∃n:Nat,v=.int n/\1<=n/\n<=6/\∀a H',But p H H'->H a=none->ExAt CM H' p n a->a8a K H' a [(0,(1,0))]->Q .non H')\/False)
def a7k (K:A0a)(CM:MK->Addr):Sp:=fun vs H Q E=>∃(p:Addr) (v:V),vs=[.ref p,v]/\∃dx,H p=some (.ins (CM .sg) dx [])/\
 ((∃n:Nat,v=.int n/\1<=n/\n<=40/\∀H',But p H H'->c6k K CM H' p n (starts n)->Q .non H')\/False)
def b9v (K:A0a)(CD:DK->Addr)(CM:MK->Addr)(T1 T2 T3 T4:Addr):Sp:=fun vs H Q E=>∃(x:Addr) (v:V) (n:Nat),vs=[.ref x,v]/\n<=6/\
 ((∃(w:Addr) (d:Dd),v=.ref w/\H w=some (.tup (.str d.k.word::vn d.w))/\d.Ok n/\
  ((∃a ws,ExAt CM H x n a/\a8a K H a ws/\(ws.map (·.1)).Nodup/\ws.length<=90/\c1a T1 T2 T3 T4 H/\∀p H',ButT x H H'->c1a T1 T2 T3 T4 H'->H p=none->ExAt CM H' x n p->a8a K H' p (wnz (a6k d ws))->Q .non H')\/
   (∃rs,c6k K CM H x n rs/\rs.length<=10/\∀H',But x H H'->c6k K CM H' x n (rs.map (act d))->Q .non H')))\/
  False)
abbrev sp_M_do (K:A0a)(CD:DK->Addr)(CM:MK->Addr)(T1 T2 T3 T4:Addr)(_:MK):Sp:=b9v K CD CM T1 T2 T3 T4
def c3p (K:A0a):Sp:=fun vs H Q _=>∃(c:Int) (k n:Nat),vs=[.int c,.int k,.int n]/\k<=90/\n<=40/\∀m:Nat,m<2^n->Q (.int m) H
def c0x (K:A0a):Sp:=fun vs H Q _=>∃(c:Int) (n:Nat),vs=[.int c,.int n]/\0<n/\n<=40/\∀p H' (x z:Nat),a2f H H'->H' p=some (.tup [.int x,.int z])->x<2^n/\z<2^n/\(x≠0\/z≠0)->Q (.ref p) H'
theorem mth_Mn {CM:MK->Addr}{n:Nat}{m:Str}{R:MK->Prop}(h:Mn CM H x n)(l:∀a:Addr,([("n",V.int (n:Int)),("amounts",V.ref a)]:List (Str×V)).lookup m=none/\([("n",V.int (n:Int)),("kept",V.ref a)]:List (Str×V)).lookup m=none)(q:∀d,R d):rMeth CM m (.ref x) H R:=by
 rcases h with ⟨dx,a,hx⟩|⟨dx,a,hx⟩
 ·exact a4q hx (l a).1 (q _)
 ·exact a4q hx (l a).2 (q _)
theorem Mn.stay {CM:MK->Addr}{n:Nat}(h:Mn CM H x n)(s:a2f H H'):Mn CM H' x n:=by
 rcases h with ⟨dx,a,hx⟩|⟨dx,a,hx⟩
 ·exact .inl ⟨dx,a,s _ _ hx⟩
 ·exact .inr ⟨dx,a,s _ _ hx⟩
theorem RL.refs {K:A0a}{H:Hp}{rs:List Row}{xs:List V}(h:RL K H rs xs):∃as,xs=refs as/\a4a (Rt K H) as rs:=by
 induction h with
 | nil=>exact⟨[],rfl,.nil⟩
 | @cons r t rs xs q _ ih=>
  obtain⟨as,e,h⟩:=ih;exact⟨t::as,by rw[e];rfl,.cons q h⟩
theorem adds_nd:∀(es acc:Wh),(acc.map (·.1)).Nodup->((c2x acc es).map (·.1)).Nodup
 | [],_,h=>h
 | e::es,acc,h=>adds_nd es (wadd acc e.1 e.2) (wadd_nd h)
theorem adds_step {A W:Wh}{i:Nat}(h:W[i]? = some e):c2x A (W.take (i+1))=wadd (c2x A (W.take i)) e.1 e.2:=by
 unfold c2x;rw[List.take_succ,h];exact A4y
def sp_added (K:A0a):Sp:=fun vs H Q _=>∃(a b:Addr) (W O:Wh),vs=[.ref a,.ref b]/\a8a K H a W/\a8a K H b O/\(W.map (·.1)).Nodup/\W.length<=90/\O.length<=90/\∀p H',a2f H H'->H p=none->a8a K H' p (wnz (c2x W O))->Q (.ref p) H'
def c7k (K:A0a):Sp:=fun vs H Q _=>∃(a w:Addr) (ws:Wh) (r:Row),vs=[.ref a,.ref w]/\a8a K H a ws/\(ws.map (·.1)).Nodup/\ws.length<=100/\SqT K H w r.V/\∀p H',a2f H H'->H p=none->a8a K H' p (ws.map (tE r))->Q (.ref p) H'
def d3j (K:A0a):Sp:=fun vs H Q _=>∃(a w:Addr) (v:Nat) (ws:Wh) (r:Row),vs=[.ref a,.ref w,.int v]/\a8a K H a ws/\(ws.map (·.1)).Nodup/\ws.length<=90/\SqT K H w r.V/\∀p H',a2f H H'->H p=none->a8a K H' p (half ⟨r.m^^^v,r.x,r.z⟩ ws)->Q (.ref p) H'
def sp_places (K:A0a):Sp:=fun vs H Q _=>∃n:Nat,vs=[.int n]/\n<2^100/\∀p,H p=none->Q (.ref p) (upd H p (.lst (vn (pls n))))
def b4d (K:A0a)(CD:SK->Addr):Sp:=fun vs H Q _=>∃(p l:Addr) (x:Nat) (us:List Nat) (ss:List Sm),vs=[.ref p,.int x]/\SnAt CD H p l us ss/\us.length<=100/\∀H',a2f H H'->((red ss x 0).1=0->Q (.int ((red ss x 0).2:Int)) H')/\((red ss x 0).1≠0->Q .non H')
abbrev c0p (K:A0a)(CD:SK->Addr)(_:SK):Sp:=b4d K CD
def b9s (K:A0a):Sp:=fun vs H Q _=>∃(l:Addr) (as:List Addr) (us:List Row),vs=[.ref l]/\H l=some (.lst (refs as))/\a4a (Rt K H) as us/\as.length<=200/\(∀i r,us[i]? = some r->a3d (pr (us.take i)) r=false)/\∀p H',a2f H H'->H' p=some (.tup (pr us).V)->Q (.ref p) H'
def sp_widest (K:A0a):Sp:=fun vs H Q _=>∃(l:Addr) (as:List Addr) (rs:List Row),vs=[.ref l]/\H l=some (.lst (refs as))/\a4a (Rt K H) as rs/\as.length<=100/\0<as.length/\(∀r∈rs,r.Ok 40)/\∀(w:Nat) H',a2f H H'->w<=40->(∀r∈rs,r.x<2^w/\r.z<2^w)->Q (.int (w:Int)) H'
def d3a (K:A0a):Sp:=fun vs H Q _=>∃(l a:Addr) (as:List Addr) (rs:List Row) (o:Row),vs=[.ref l,.ref a]/\H l=some (.lst (refs as))/\a4a (Rt K H) as rs/\as.length<=40/\H a=some (.tup o.V)/\(∀r∈rs,r.Ok 40)/\o.Ok 40/\(∀r∈rs,∀s∈rs,a3d r s=false)/\
 ∀H',a2f H H'->((∀m,¬Lsel rs m o)->Q .non H')/\∀m p q,m<2^rs.length->Lsel rs m o->H' q=some (.lst (vn (plc m rs.length)))->H' p=some (.tup [.ref q,.int (((pr (pk rs (plc m rs.length))).m^^^o.m:Nat):Int)])->Q (.ref p) H'
theorem rl_of {rs:List Row}(h:a4a (Rt K H) as rs):RL K H rs (refs as):=by
 induction h with
 | nil=>exact .nil
 | cons e _ ih=>exact .cons e ih
theorem iteB {c:Bool}{a b:Prop}(h1:c=true->a)(h2:c=false->b):if c=true then a else b:=by
 cases c
 ·exact h2 rfl
 ·exact h1 rfl
theorem pop_nil (n:Nat):pop n=0->n=0:=by
 induction n using A6x with
 | ind n ih=>
  intro h
  by_cases z:n=0
  ·exact z
  ·rw[b3a] at h;have:=ih (n/2) (pop_dec z) (by omega);omega
def b5g (K:A0a)(CM:MK->Addr):Sp:=fun vs H Q _=>∃(x w a:Addr) (n v:Nat) (ws:Wh) (r:Row),vs=[.ref x,.ref w,.int v]/\ExAt CM H x n a/\a8a K H a ws/\Wn n ws/\n<=6/\SqT K H w r.V/\r.Ok n/\∀p H',But x H H'->ExAt CM H' x n p->a8a K H' p (half ⟨r.m^^^v,r.x,r.z⟩ ws)->Q .non H'
def b5m (K:A0a)(CM:MK->Addr):Sp:=fun vs H Q _=>∃(x w:Addr) (n v:Nat) (rs:List Row) (r c:Row) (cs:List Row),vs=[.ref x,.ref w,.int v]/\c6k K CM H x n rs/\Kept n rs/\n<=6/\H w=some (.tup r.V)/\r.Ok n/\rs.filter (fun s=>a3d s r)=c::cs/\∀H',But x H H'->c6k K CM H' x n (rs.filter (fun s=>!a3d s r)++cs.map (tm c)++[⟨v,r.x,r.z⟩])->Q .non H'
abbrev c7p (K:A0a)(CM:MK->Addr):MK->Sp
 | .ex=>b5g K CM
 | .sg=>b5m K CM
def b9z (K:A0a):Sp:=fun vs H Q E=>∃(v:V) (n:Nat),vs=[v,.int n]/\n<=1000/\
 ((∃(a:Addr) (r:Row),v=.ref a/\H a=some (.tup r.V)/\r.Ok n/\r.m=0/\¬(r.x=0/\r.z=0)/\∀H',a2f H H'->Q .non H')\/False)
inductive Sp1 where
 | dd (d:Dd)
 | lk (x z:Nat)
def Sp1.V:Sp1->List V
 | .dd d=>.str d.k.word::vn d.w
 | .lk x z=>[.str "look",.int x,.int z]
def Sp1.Ok (n:Nat):Sp1->Prop
 | .dd d=>d.Ok n
 | .lk x z=>x<2^n/\z<2^n/\¬(x=0/\z=0)
inductive NoLk (K:A0a) (H:Hp):V->Prop
 | kind {v t} (h:b8x K H v t) (k:A3u K t (.type "tuple")=some false):NoLk K H v
 | len {a xs} (h:H a=some (.tup xs)) (l:xs.length≠3) (m:xs.length<=1000):NoLk K H (.ref a)
 | word {a:Addr} {s:Str} {y z:V} (h:H a=some (.tup [.str s,y,z])) (ne:s ≠ "look"):NoLk K H (.ref a)
theorem NoLk.dd {K:A0a}{H:Hp}{a:Addr}{d:Dd}{n:Nat}(h:H a=some (.tup (Sp1.dd d).V))(ok:d.Ok n):NoLk K H (.ref a):=by
 have hl:=ok.len;obtain⟨k,w⟩:=d;have h2:H a=some (.tup (.str k.word::vn w)):=h
 match w,hl,h2 with
 | [],hl,_=>cases k<;>cases hl
 | [i],_,h2=>exact .len h2 (by show (2:Nat)≠3;decide) (by show (2:Nat)<=1000;decide)
 | [i,j],_,h2=>exact .word (y:=.int i) (z:=.int j) h2 (by cases k<;>decide +kernel)
 | _::_::_::_,hl,_=>cases k<;>cases hl
def d2z (K:A0a):Sp:=fun vs H Q _=>∃v,vs=[v]/\((∃a y z,v=.ref a/\H a=some (.tup [.str "look",y,z])/\Q (.bl true) H)\/(NoLk K H v/\Q (.bl false) H))
def c7s (K:A0a):Sp:=fun vs H Q _=>∃(a:Addr) (y z:V),vs=[.ref a]/\H a=some (.tup [.str "look",y,z])/\∀p,H p=none->Q (.ref p) (upd H p (.tup [.int 0,y,z]))
def c0q (K:A0a):Sp:=fun vs H Q E=>∃(v:V) (n:Nat),vs=[v,.int n]/\n<=6/\
 ((∃(a:Addr) (s:Sp1),v=.ref a/\H a=some (.tup s.V)/\s.Ok n/\∀H',a2f H H'->Q .non H')\/False)
def c9w (H:Hp)(a:Addr)(s:Sp1):Prop:=H a=some (.tup s.V)
theorem Mn.wires {CM:MK->Addr}{n:Nat}(h:Mn CM H x n):∃k dx fs,H x=some (.ins (CM k) dx (("n",.int (n:Int))::fs)):=by
 rcases h with ⟨dx,a,e⟩|⟨dx,a,e⟩
 ·exact⟨.ex,dx,_,e⟩
 ·exact⟨.sg,dx,_,e⟩
theorem butL_tup {xs:List V}(h:But f H H')(hf:H f=some (.lst xs)){a:Addr}{ys:List V}(s:SqT K H a ys):SqT K H' a ys:=by
 rcases s with (e|⟨o,e⟩)|e
 ·exact .inl (.inl (h _ _ (fun z=>by rw[z,hf] at e;cases e) e))
 ·exact .inl (.inr ⟨o,h _ _ (fun z=>by rw[z,hf] at e;cases e) e⟩)
 ·exact .inr e
inductive It (H:Hp):V->PyData->Prop
 | tup {a xs} (h:H a=some (.tup xs)) (o:xs.all okV=true):It H (.ref a) (.tuple (xs.map dV))
 | lst {a xs} (h:H a=some (.lst xs)) (o:xs.all okV=true):It H (.ref a) (.list (xs.map dV))
 | non:It H .non .none
theorem kept_start (n:Nat):Kept n (starts n):=by
 have z:∀a b:Nat,a3d ⟨0,0,a⟩ ⟨0,0,b⟩=false:=fun a b=>by
  unfold a3d;rw[A6r,B3q,c1r];rfl
 unfold starts;refine⟨by rw[A0c,List.length_range],fun r hr=>?_,fun r hr s hs=>?_,?_⟩
 ·obtain⟨k,hk,rfl⟩:=A1k.1 hr;exact⟨A1v _,A1m n,A1r (by decide) (A7s.1 hk)⟩
 ·obtain⟨a,_,rfl⟩:=A1k.1 hr;obtain⟨b,_,rfl⟩:=A1k.1 hs;exact z _ _
 ·have key:∀k,k<=n->Ind (((A5d k).map fun k=>(⟨0,0,2^k⟩:Row)).map (sn n)):=by
   intro k
   induction k with
   | zero=>intro _;exact trivial
   | succ k ih=>
    intro hk;rw[List.range_succ,A1b,A1b];refine c6n (ih (by omega)) fun hq9=>?_;obtain⟨m,_,e⟩:=hq9
    have hb:(a4f (((A5d k).map fun k=>(⟨0,0,2^k⟩:Row)).map (sn n)) m).testBit (k+n)=false:=by
     refine d4x m fun v hv=>?_;obtain⟨r,hr,rfl⟩:=A1k.1 hv;obtain⟨j,hj,rfl⟩:=A1k.1 hr;have hj:=A7s.1 hj;show ((0:Nat)^^^2^j*2^n).testBit (k+n)=false;rw[A3c,<- A7q,Nat.testBit_two_pow_of_ne (by omega)]
    rw[e] at hb;have hb2:((0:Nat)^^^2^k*2^n).testBit (k+n)=false:=hb;rw[A3c,<- A7q,A3x] at hb2;cases hb2
  exact key n (A0f n)
def c7m (K:A0a):Sp:=fun vs H Q _=>∃(c:Int) (n:Nat),vs=[.int c,.int n]/\0<n/\n<=6/\∀p H' s,a2f H H'->c9w H' p s->s.Ok n->Q (.ref p) H'
def Dl (CR:RK->Addr)(H:Hp)(d lb:Addr)(bs:List Nat)(k:Nat):Prop:=∃dx,H d=some (.ins (CR .draws) dx [("bits",.ref lb),("told",.int (k:Int))])/\H lb=some (.lst (vn bs))/\k<=bs.length/\bs.length<=100/\∀b∈bs,b<=1
def Dr (H:Hp)(f d:Addr):Prop:=∃c o,b6z H f a5d [("draws",c)]/\H c=some (exO c o)/\o.data=.cell (some (.ref d))
def nxt (bs:List Nat)(k:Nat):Nat:=if k=bs.length then k else k+1
def LD (CR:RK->Addr)(f:Addr)(vs:List V)(H:Hp)(Q:VK):Prop:=∃(d lb:Addr) (bs:List Nat) (k:Nat),vs=[]/\Dr H f d/\Dl CR H d lb bs k/\∀H',But d H H'->Dl CR H' d lb bs (nxt bs k)->Q (.int ((bs.getD k 0:Nat):Int)) H'
def b7j (K:A0a)(CR:RK->Addr):Sp:=fun vs H Q _=>∃v,vs=[v]/\((v=.non/\Q (.int ((0:Nat):Int)) H)\/∃(f d lb:Addr) (bs:List Nat) (k:Nat),v=.ref f/\Dr H f d/\Dl CR H d lb bs k/\∀H',But d H H'->Dl CR H' d lb bs (nxt bs k)->Q (.int ((bs.getD k 0:Nat):Int)) H')
def a7r (K:A0a)(CR:RK->Addr):Sp:=fun vs H Q _=>∃(p l dx:Addr) (ns:List Int),vs=[.ref p,.ref l]/\H p=some (.ins (CR .draws) dx [])/\SqL K H l (ns.map V.int)/\ns.length<=100/\∀H' lb,But p H H'->H lb=none->Dl CR H' p lb (ns.map fun i=>(i%2).toNat) 0->Q .non H'
def b9t (K:A0a)(CR:RK->Addr):Sp:=fun vs H Q _=>∃(d lb:Addr) (bs:List Nat) (k:Nat),vs=[.ref d]/\Dl CR H d lb bs k/\∀H',But d H H'->Dl CR H' d lb bs (nxt bs k)->Q (.int ((bs.getD k 0:Nat):Int)) H'
abbrev c8k (K:A0a)(CR:RK->Addr)(_:RK):Sp:=b9t K CR
def But2 (x d:Addr)(H H':Hp):Prop:=∀c o,c≠x->c≠d->H c=some o->H' c=some o
theorem and1_int (c:Int):A2y c 1=c%2:=by
 rcases (show c<0\/0<=c by omega) with h|h
 ·obtain⟨m,rfl⟩:∃m:Nat,c= -(m:Int)-1:=⟨(-c-1).toNat,by omega⟩;unfold A2y B2h;rw[show decide (0 <= -(m:Int)-1)=false from decide_eq_false (by omega),show decide ((0:Int)<=1)=true from rfl];show (1:Int)-(((1:Int).toNat&&&(-(-(m:Int)-1)-1).toNat:Nat):Int)=_;rw[show (-(-(m:Int)-1)-1).toNat=m by omega,show (1:Int).toNat=1 from rfl,A0v,A3b];omega
 ·obtain⟨n,rfl⟩:=Int.eq_ofNat_of_zero_le h;rw[show (1:Int)=((1:Nat):Int) from rfl,a7m,A3b];omega
theorem told_ne:¬(("bits":Str) = "told"):=by decide +kernel
theorem dflds_put (b t:V):b7h "told" t (b7h "bits" b [])=([("bits",b),("told",t)]:List (Str×V)):=by simp only[b7h,if_neg told_ne]
theorem tflds_put (b t u:V):b7h "told" u [("bits",b),("told",t)]=([("bits",b),("told",u)]:List (Str×V)):=by simp[b7h,told_ne]
theorem d6u {b t:V}:([("bits",b),("told",t)]:List (Str×V)).lookup ("told":Str)=some t:=by
 rw[A1n,show (("told":Str) == "bits")=false by decide +kernel];rfl
theorem isN {b:Bool}{P:Bool->Prop}{v:V}(h:decide (v=V.non)=b)(p:P b):V.non=V.non/\∃k,V.bl (decide (v=V.non))=V.bl k/\P k:=⟨rfl,b,by rw[h],p⟩
theorem nn_t:decide (V.non=V.non)=true:=decide_eq_true rfl
theorem nn_f (p:Addr):decide (V.ref p=V.non)=false:=decide_eq_false fun z=>by cases z
theorem Dl.bit {CR:RK->Addr}(h:Dl CR H d lb bs k):bs.getD k 0<=1:=by
 obtain⟨_,_,_,_,_,h⟩:=h;rw[List.getD_eq_getElem?_getD]
 cases e:bs[k]? with
 | none=>exact A1v _
 | some b=>exact h b (List.mem_of_getElem? e)
theorem Dl.stay {CR:RK->Addr}(h:Dl CR H d lb bs k)(s:a2f H H'):Dl CR H' d lb bs k:=by
 obtain⟨dx,h1,h2,h3⟩:=h;exact⟨dx,s _ _ h1,s _ _ h2,h3⟩
theorem Dr.stay (h:Dr H f d)(s:a2f H H'):Dr H' f d:=by
 obtain⟨c,o,h1,h2,h3⟩:=h;exact⟨c,o,b6z.same s h1,s _ _ h2,h3⟩
theorem rfl_no (b t:V):([("bits",b),("told",t)]:List (Str×V)).lookup ("draw":Str)=none:=by
 rw[A1n,show (("draw":Str) == "bits")=false by decide +kernel];show A3j ("draw":Str) [(("told":Str),t)]=none;rw[A1n,show (("draw":Str) == "told")=false by decide +kernel];rfl
def Tp (H:Hp)(p:Addr)(e:Nat×Bool):Prop:=H p=some (.tup [.int (e.1:Int),.bl e.2])
theorem Tp.ft {e:Nat×Bool}(h:Tp H p e):Ft H p [.int (e.1:Int),.bl e.2]:=⟨h,rfl⟩
theorem b7n {H:Hp}:∀{as:List Addr} {es:List (Nat×Bool)},a4a (Tp H) as es->a4a (Ft H) as (es.map fun e=>[V.int (e.1:Int),.bl e.2])
 | _,_,.nil=>.nil
 | _,_,.cons h t=>.cons h.ft (b7n t)
def LZ (CR:RK->Addr)(f:Addr)(vs:List V)(H:Hp)(Q:VK):Prop:=LL f vs H Q\/LD CR f vs H Q
def c3m (K:A0a)(CR:RK->Addr)(T1 T2 T3 T4:Addr):Sp:=fun vs H Q _=>∃(l:Addr) (ns:List Int),vs=[.ref l]/\SqL K H l (ns.map V.int)/\ns.length<=100/\c1a T1 T2 T3 T4 H/\∀f d lb H',a4t H H'->c1a T1 T2 T3 T4 H'->H f=none->H d=none->H lb=none->Dr H' f d->Dl CR H' d lb (ns.map fun i=>(i%2).toNat) 0->Q (.ref f) H'
theorem eq_nilJ {a:Addr}{ws:Wh}(h:a8a K H a ws)(hb:H b=some (.dK []))(nd:(ws.map (·.1)).Nodup)(q:Q (.bl (decide (ws=[]))) H):rEqM false K (.ref a) (.ref b) H Q:=by
 obtain⟨kvs,ha,h⟩:=h;refine st_eqM (.inl ha) (.inl hb) (h.dv nd) (g:=fun _=>.none) (fun _ _ z=>nomatch z) ?_
 have e:c2f kvs [] (wd ws) (fun _=>.none)=decide (ws=[]):=by
  have hl:=h.len
  by_cases c:ws=[]
  ·subst c;have:kvs=[]:=B0w.1 hl;subst this;rw[decide_eq_true rfl];rfl
  ·rw[decide_eq_false c];unfold c2f;rw[decide_eq_false (show ¬kvs.length=([]:List (Key×V)).length from fun z=>c (B0w.1 (by rw[<- hl];exact z)))];rfl
 rw[e,A2u];exact q
def jvV:Option Nat->V
 | some i=>.int (i:Int)
 | none=>.non
structure JS where
 ws:Wh
 rs:List Row
 i:Nat
 ts:List (Nat×Bool)
def a4u (bs:List Nat)(s:JS):Sp1->JS
 | .dd d=>⟨wnz (a6k d s.ws),s.rs.map (act d),s.i,s.ts⟩
 | .lk x z=>match jv s.ws ⟨0,x,z⟩ with
  | some v=>⟨s.ws,s.rs,s.i,s.ts++[(v,true)]⟩
  | none=>⟨half ⟨bs.getD s.i 0,x,z⟩ s.ws,stlJ s.rs ⟨0,x,z⟩ (bs.getD s.i 0),nxt bs s.i,s.ts++[(bs.getD s.i 0,false)]⟩
theorem jstp_s {s:JS}{x v:Nat}(e:jv s.ws ⟨0,x,z⟩=some v):a4u bs s (.lk x z)=⟨s.ws,s.rs,s.i,s.ts++[(v,true)]⟩:=by
 simp only[a4u,e]
theorem jstp_f {s:JS}{x:Nat}(e:jv s.ws ⟨0,x,z⟩=none):a4u bs s (.lk x z)=⟨half ⟨bs.getD s.i 0,x,z⟩ s.ws,stlJ s.rs ⟨0,x,z⟩ (bs.getD s.i 0),nxt bs s.i,s.ts++[(bs.getD s.i 0,false)]⟩:=by
 simp only[a4u,e]
theorem Jt.up {n:Nat}{ws:Wh}{rs:List Row}(h:Jt n k ws rs):Jt n (k+1) ws rs:=⟨h.wn,h.kp,h.st,h.ne,h.bn.mono (A0w (by decide) (by omega))⟩
theorem bit_le (h:∀b∈bs,b<=1)(i:Nat):bs.getD i 0<=1:=by
 rw[List.getD_eq_getElem?_getD]
 cases e:bs[i]? with
 | none=>exact A1v _
 | some b=>exact h b (List.mem_of_getElem? e)
theorem Jt.stp {n:Nat}{s:JS}(h:Jt n k s.ws s.rs)(hb:∀b∈bs,b<=1){st:Sp1}(ok:st.Ok n):Jt n (k+1) (a4u bs s st).ws (a4u bs s st).rs:=by
 cases st with
 | dd d=>exact h.deed ok
 | lk x z=>
  have oo:(⟨0,x,z⟩:Row).Ok n:=⟨A1v _,ok.1,ok.2.1⟩
  cases e:jv s.ws ⟨0,x,z⟩ with
  | some v=>rw[jstp_s e];exact h.up
  | none=>rw[jstp_f e];exact h.settle oo (h.none_of oo e) (bit_le hb _)
theorem Jt.run {n:Nat}{bs:List Nat}(hb:∀b∈bs,b<=1):∀{ss:List Sp1} {s:JS} {k:Nat},Jt n k s.ws s.rs->(∀st∈ss,st.Ok n)->Jt n (k+ss.length) (ss.foldl (a4u bs) s).ws (ss.foldl (a4u bs) s).rs
 | [],_,_,h,_=>h
 | st::ss,s,k,h,ok=>by
  have:=Jt.run hb (ss:=ss) (h.stp hb (ok st A0k)) fun t ht=>ok t (A0d _ ht);rw[A1a,show k+(ss.length+1)=k+1+ss.length by omega];exact this
def Md (K:A0a)(CM:MK->Addr)(H:Hp)(x:Addr)(n:Nat)(kd:MK)(s:JS):Prop:=match kd with
 | .ex=>∃a,ExAt CM H x n a/\a8a K H a s.ws
 | .sg=>c6k K CM H x n s.rs
theorem Md.wires {CM:MK->Addr}{n:Nat}{kd:MK}{s:JS}(h:Md K CM H x n kd s):∃dx a y,H x=some (.ins (CM kd) dx [("n",.int (n:Int)),(y,.ref a)]):=by
 cases kd with
 | ex=>obtain⟨a,⟨dx,e⟩,_⟩:=h;exact⟨dx,a,_,e⟩
 | sg=>obtain⟨dx,a,xs,e,_⟩:=h;exact⟨dx,a,_,e⟩
theorem Md.stay {K:A0a}{CM:MK->Addr}{H H':Hp}{x:Addr}{n:Nat}{kd:MK}{s:JS}(h:Md K CM H x n kd s)(e:a2f H H'):Md K CM H' x n kd s:=by
 cases kd with
 | ex=>obtain⟨a,h1,h2⟩:=h;exact⟨a,h1.stay e,h2.stay e⟩
 | sg=>exact c6k.stay h e
theorem Md.mn {CM:MK->Addr}{n:Nat}{kd:MK}{s:JS}(h:Md K CM H x n kd s):Mn CM H x n:=by
 cases kd with
 | ex=>obtain⟨a,⟨dx,e⟩,_⟩:=h;exact .inl ⟨dx,a,e⟩
 | sg=>obtain⟨dx,a,xs,e,_⟩:=h;exact .inr ⟨dx,a,e⟩
def c2e (x d:Addr)(H H':Hp):Prop:=∀c o,c≠x->c≠d->H c=some o->(∀ps,o≠.tbl ps)->H' c=some o
def b0p (K:A0a)(CM:MK->Addr):Sp:=fun vs H Q _=>∃(x w a:Addr) (n:Nat) (ws:Wh) (r:Row),vs=[.ref x,.ref w]/\ExAt CM H x n a/\a8a K H a ws/\Wn n ws/\n<=6/\SqT K H w r.V/\r.Ok n/\r.m=0/\∀H',a2f H H'->Q (jvV (jv ws r)) H'
def a9w (K:A0a)(CM:MK->Addr):Sp:=fun vs H Q _=>∃(x w:Addr) (n k:Nat) (ws:Wh) (rs:List Row) (r:Row),vs=[.ref x,.ref w]/\c6k K CM H x n rs/\Jt n k ws rs/\n<=6/\H w=some (.tup r.V)/\r.Ok n/\r.m=0/\∀H',a2f H H'->Q (jvV (jv ws r)) H'
abbrev b5x (K:A0a)(CM:MK->Addr):MK->Sp
 | .ex=>b0p K CM
 | .sg=>a9w K CM
def b4w (K:A0a)(CM:MK->Addr)(CR:RK->Addr):Sp:=fun vs H Q E=>∃(x w f:Addr),vs=[.ref x,.ref w,.ref f]/\∃(d lb:Addr) (n k:Nat) (kd:MK) (s:JS) (xx zz:Nat) (bs:List Nat),Md K CM H x n kd s/\Jt n k s.ws s.rs/\n<=6/\H w=some (.tup (⟨0,xx,zz⟩:Row).V)/\xx<2^n/\zz<2^n/\¬(xx=0/\zz=0)/\Dr H f d/\Dl CR H d lb bs s.i/\
 ∀p v H',But2 x d H H'->Md K CM H' x n kd (a4u bs s (.lk xx zz))->Dl CR H' d lb bs (a4u bs s (.lk xx zz)).i->(a4u bs s (.lk xx zz)).ts=s.ts++[v]->Tp H' p v->Q (.ref p) H'
abbrev sp_M_look (K:A0a)(CM:MK->Addr)(CR:RK->Addr)(_:MK):Sp:=b4w K CM CR
def c9j (K:A0a)(CM:MK->Addr)(CR:RK->Addr)(T1 T2 T3 T4:Addr):Sp:=fun vs H Q E=>∃(x l f:Addr),vs=[.ref x,.ref l,.ref f]/\∃(d lb:Addr) (n k:Nat) (kd:MK) (s:JS) (bs:List Nat) (as:List Addr) (ss:List Sp1),Md K CM H x n kd s/\Jt n k s.ws s.rs/\s.ts=[]/\0<n/\n<=6/\SqL K H l (refs as)/\as.length<=100/\a4a (c9w H) as ss/\(∀st∈ss,st.Ok n)/\c1a T1 T2 T3 T4 H/\Dr H f d/\Dl CR H d lb bs s.i/\
 ∀p ts H',c2e x d H H'->c1a T1 T2 T3 T4 H'->Md K CM H' x n kd (ss.foldl (a4u bs) s)->Dl CR H' d lb bs (ss.foldl (a4u bs) s).i->H p=none->H' p=some (.lst (refs ts))->a4a (Tp H') ts (ss.foldl (a4u bs) s).ts->Q (.ref p) H'
def c2y (K:A0a)(CM:MK->Addr)(CR:RK->Addr)(T1 T2 T3 T4:Addr):Sp:=fun vs H Q E=>∃(x w f:Addr),vs=[.ref x,.ref w,.ref f]/\∃(d lb:Addr) (n k:Nat) (kd:MK) (s:JS) (bs:List Nat) (st:Sp1),Md K CM H x n kd s/\Jt n k s.ws s.rs/\0<n/\n<=6/\c9w H w st/\st.Ok n/\c1a T1 T2 T3 T4 H/\Dr H f d/\Dl CR H d lb bs s.i/\
 ∀p ts vs H',c2e x d H H'->c1a T1 T2 T3 T4 H'->Md K CM H' x n kd (a4u bs s st)->Dl CR H' d lb bs (a4u bs s st).i->H' p=some (.lst (refs ts))->ts.length<=1->(a4u bs s st).ts=s.ts++vs->a4a (Tp H') ts vs->Q (.ref p) H'
def c3f (K:A0a)(CM:MK->Addr):Sp:=fun vs H Q _=>∃(x y:Addr) (n k:Nat) (s:JS),vs=[.ref x,.ref y]/\Md K CM H x n .ex s/\Md K CM H y n .sg s/\Jt n k s.ws s.rs/\k<=70/\n<=6/\∀H',a2f H H'->Q (.bl true) H'
def b1w (K:A0a):Sp:=fun vs H Q _=>∃(a b:Addr) (p q:Int×Int),vs=[.ref a,.ref b]/\SqT K H a [.int p.1,.int p.2]/\SqT K H b [.int q.1,.int q.2]/\(p.1.natAbs<2^300/\p.2.natAbs<2^300)/\(q.1.natAbs<2^300/\q.2.natAbs<2^300)/\∀t H',a2f H H'->H' t=some (.tup [.int (gm p q).1,.int (gm p q).2])->Q (.ref t) H'
def b9m (K:A0a):Sp:=fun vs H Q _=>∃(a b:Addr) (n:Nat) (ws:Wh),vs=[.ref a,.ref b]/\a≠b/\a8a K H a ws/\a8a K H b ws/\Wn n ws/\ws≠[]/\n<=6/\Bn (2^70) (wv ws)/\∀H',a2f H H'->Q (.bl true) H'
abbrev c2w (K:A0a):Sp:=sp_ones K
def b9h (K:A0a):Sp:=fun vs H Q _=>∃(a w:Addr) (ws:Wh) (r:Row),vs=[.ref a,.ref w]/\a8a K H a ws/\(ws.map (·.1)).Nodup/\ws.length<=100/\SqT K H w r.V/\∀p H',a2f H H'->H p=none->a8a K H' p (ws.map (tE r))->Q (.ref p) H'
def c0n (K:A0a):Sp:=fun vs H Q _=>∃(c:Int) (k:Nat),vs=[.int c,.int k]/\k<=100/\∀m:Nat,m<2147483648->Q (.int m) H
def sp_law (K:A0a)(T1 T2 T3 T4:Addr):Sp:=fun vs H Q _=>∃(a:Addr) (ns:List Int),vs=[.ref a]/\SqL K H a (ns.map V.int)/\ns.length<=63/\c1a T1 T2 T3 T4 H/\∀H',Q (.bl true) H'
theorem Dl.ins {CR:RK->Addr}{H:Hp}{d lb:Addr}{bs:List Nat}{k:Nat}(h:Dl CR H d lb bs k):∃dx,H d=some (.ins (CR .draws) dx [("bits",.ref lb),("told",.int (k:Int))]):=⟨h.choose,h.choose_spec.1⟩
theorem Dl.butJ {CR:RK->Addr}{fs:List (Str×V)}(h:Dl CR H d lb bs k)(b:But x H H')(hx:H x=some (.ins C dx0 fs))(ne:d≠x):Dl CR H' d lb bs k:=by
 obtain⟨dx,h1,h2,h3⟩:=h;exact⟨dx,b _ _ ne h1,b _ _ (fun z=>by rw[z,hx] at h2;cases h2) h2,h3⟩
theorem b3q {CM:MK->Addr}{CR:RK->Addr}{n:Nat}{kd:MK}{s:JS}(h:Md K CM H x n kd s)(hd:Dl CR H d lb bs k):x≠d:=fun z=>by
 obtain⟨dx,a,y,e⟩:=h.wires;obtain⟨dx2,e2⟩:=hd.ins;rw[z,e2] at e
 injection e with e
 injection e with _ _ e
 injection e with e _
 injection e with e _
 exact absurd e (by decide +kernel)
theorem Md.but {CM:MK->Addr}{fs:List (Str×V)}{n:Nat}{kd:MK}{s:JS}(h:Md K CM H x n kd s)(b:But f H H')(hf:H f=some (.ins C dx0 fs))(ne:x≠f):Md K CM H' x n kd s:=by
 cases kd with
 | ex=>
  obtain⟨a,⟨dx,e⟩,kv,e2,r⟩:=h;exact⟨a,⟨dx,b _ _ ne e⟩,kv,b _ _ (fun z=>by rw[z,hf] at e2;cases e2) e2,r.stay fun y ys q=>c5s b hf q⟩
 | sg=>exact c6k.butT h (fun c o hc e _=>b c o hc e) hf ne
def Kn (H H':Hp):Prop:=∀c o,H c=some o->(∀C dx fs,o≠.ins C dx fs)->(∀ps,o≠.tbl ps)->H' c=some o
theorem Kn.trans {H1:Hp}(a:Kn H H1)(b:Kn H1 H'):Kn H H':=fun c o e n m=>b c o (a c o e n m) n m
theorem Kn.of (s:a2f H H'):Kn H H':=fun c o e _ _=>s c o e
theorem c2e.kn {fs fs':List (Str×V)}(b:c2e x d H H')(hx:H x=some (.ins C dx fs))(hd:H d=some (.ins C' dx' fs')):Kn H H':=fun c o e n m=>b c o (fun z=>by rw[z,hx] at e;exact n _ _ _ (A0j e).symm) (fun z=>by rw[z,hd] at e;exact n _ _ _ (A0j e).symm) e m
theorem Kn.tp (k:Kn H H'){a:Addr}{ys:List V}(e:H a=some (.tup ys)):H' a=some (.tup ys):=k _ _ e (by intro a b c z;cases z) (by intro p z;cases z)
theorem Kn.ls (k:Kn H H'){a:Addr}{ys:List V}(e:H a=some (.lst ys)):H' a=some (.lst ys):=k _ _ e (by intro a b c z;cases z) (by intro p z;cases z)
theorem Kn.ex (k:Kn H H'){a:Addr}(e:H a=some (exO b o)):H' a=some (exO b o):=k _ _ e (by intro a b c z;cases z) (by intro p z;cases z)
theorem Kn.dr (k:Kn H H')(h:Dr H f d):Dr H' f d:=by
 obtain⟨c,o,⟨c',oc,pm,ctv,g1,g2,g3⟩,h2,h3⟩:=h;exact⟨c,o,⟨c',oc,pm,ctv,k.ex g1,k.ex g2,g3⟩,k.ex h2,h3⟩
theorem Kn.sq (k:Kn H H'){a:Addr}{ys:List V}(s:SqT K H a ys):SqT K H' a ys:=by
 rcases s with (e|⟨o,e⟩)|e
 ·exact .inl (.inl (k.tp e))
 ·exact .inl (.inr ⟨o,k _ _ e (by intro a b c z;cases z) (by intro p z;cases z)⟩)
 ·exact .inr e
theorem Kn.wh (k:Kn H H'){a:Addr}{ws:Wh}(h:a8a K H a ws):a8a K H' a ws:=by
 obtain⟨kv,e,r⟩:=h;exact⟨kv,k _ _ e (by intro a b c z;cases z) (by intro p z;cases z),r.stay fun y ys q=>k.sq q⟩
theorem Kn.dl {CR:RK->Addr}(k:Kn H H'){i:Nat}(h:Dl CR H d lb bs i)(hd:∀o,H d=some o->H' d=some o):Dl CR H' d lb bs i:=by
 obtain⟨dx,h1,h2,h3⟩:=h;exact⟨dx,hd _ h1,k.ls h2,h3⟩
theorem Kn.md {CM:MK->Addr}(k:Kn H H'){n:Nat}{kd:MK}{s:JS}(h:Md K CM H x n kd s)(hx:∀o,H x=some o->H' x=some o):Md K CM H' x n kd s:=by
 cases kd with
 | ex=>obtain⟨a,⟨dx,e⟩,h2⟩:=h;exact⟨a,⟨dx,hx _ e⟩,k.wh h2⟩
 | sg=>obtain⟨dx,a,xs,e,h2,h3⟩:=h;exact⟨dx,a,xs,hx _ e,k.ls h2,h3.stay fun y ys q=>k.tp q⟩
theorem Md.app {CM:MK->Addr}{n:Nat}{kd:MK}{s:JS}{ts:List Addr}{xs:List V}(h:Md K CM H x n kd s)(h0:0<n)(hn:s.rs.length=n)(hp:H p=some (.lst (refs ts)))(ht:a4a (Tp H) ts es):Md K CM (upd H p (.lst xs)) x n kd s:=by
 have tup:∀a ys,H a=some (.tup ys)->upd H p (.lst xs) a=some (.tup ys):=fun a ys e=>by rw[a0q fun z=>by rw[z,hp] at e;cases e];exact e
 cases kd with
 | ex=>
  obtain⟨a,⟨dx,e⟩,kv,hk,r⟩:=h;exact⟨a,⟨dx,by rw[a0q fun z=>by rw[z,hp] at e;cases e];exact e⟩,kv,by rw[a0q fun z=>by rw[z,hp] at hk;cases hk];exact hk,r.stay fun y ys s=>butL_tup (But.upd (f:=p)) hp s⟩
 | sg=>
  show c6k K CM _ x n s.rs;obtain⟨dx,a,ys,e,ha,hR⟩:=h;generalize s.rs=rs at hR hn ⊢;refine⟨dx,a,ys,by rw[a0q fun z=>by rw[z,hp] at e;cases e];exact e,?_,hR.stay tup⟩;rw[a0q fun z=>?_]
  ·exact ha
  ·rw[z,hp] at ha;obtain rfl:refs ts=ys:=by cases ha;rfl
   have hl:=hR.len;rw[a1r,hn] at hl
   cases ht with
   | nil=>exact absurd hl (by show ¬(0=n);omega)
   | cons q _=>
    cases hR with
    | cons q2 _=>
     have q':H _=some (.tup _):=q;rw[q2] at q'
     injection q' with q3
     injection q3 with q4
     exact absurd (congrArg List.length q4) (by show ¬(3:Nat)=2;decide)
theorem tp_upd {ts us:List Addr}{xs:List V}(hp:H p=some (.lst (refs ts)))(h:a4a (Tp H) us es):a4a (Tp (upd H p (.lst xs))) us es:=h.mono fun a e (x:Tp H a e)=>by
 show upd H p (.lst xs) a=_;rw[a0q fun z=>by rw[z] at x;unfold Tp at x;rw[hp] at x;cases x];exact x
theorem kn_tp (k:Kn H H'){ts:List Addr}(h:a4a (Tp H) ts es):a4a (Tp H') ts es:=h.mono fun a e (x:Tp H a e)=>k.tp x
theorem fold_take {ss:List Sp1}{s:JS}{st:Sp1}(h:ss[j]? = some st):(ss.take (j+1)).foldl (a4u bs) s=a4u bs ((ss.take j).foldl (a4u bs) s) st:=by
 rw[a1u h,A4y];rfl
theorem jstp_len {s:JS}{st:Sp1}:(a4u bs s st).ts.length<=s.ts.length+1:=by
 cases st with
 | dd d=>exact B2j _
 | lk x z=>
  cases e:jv s.ws ⟨0,x,z⟩ with
  | some v=>rw[jstp_s e,A0s];exact A0f _
  | none=>rw[jstp_f e,A0s];exact A0f _
theorem fold_len {bs:List Nat}:∀{ss:List Sp1} {s:JS},(ss.foldl (a4u bs) s).ts.length<=s.ts.length+ss.length
 | [],_=>A0f _
 | st::ss,s=>by
  have h1:=fold_len (bs:=bs) (ss:=ss) (s:=a4u bs s st);have h2:=jstp_len (bs:=bs) (s:=s) (st:=st);rw[A1a];show (ss.foldl (a4u bs) (a4u bs s st)).ts.length<=_;omega
theorem Jt.at {n:Nat}{ss:List Sp1}{s:JS}(h:Jt n k s.ws s.rs)(hb:∀b∈bs,b<=1)(ok:∀st∈ss,st.Ok n)(j:Nat):∃k',k'<=k+j/\Jt n k' ((ss.take j).foldl (a4u bs) s).ws ((ss.take j).foldl (a4u bs) s).rs:=⟨_,by rw[A0u];omega,Jt.run hb h fun st hs=>ok st (A6b hs)⟩
theorem tabs_but2 {T1 T2 T3:Addr}{fs fs':List (Str×V)}(h:c1a T1 T2 T3 T4 H)(b:But2 x d H H')(hx:H x=some (.ins C dx fs))(hd:H d=some (.ins C' dx' fs')):c1a T1 T2 T3 T4 H':=by
 have one:∀{T:Addr} {l:Lam},a4j H T l->a4j H' T l:=fun {T l} t=>by
  obtain⟨ps,h1,h2,h3⟩:=t;exact⟨ps,b _ _ (fun z=>by rw[z,hx] at h1;cases h1) (fun z=>by rw[z,hd] at h1;cases h1) h1,h2,h3.imp id fun⟨c,o,g1,g2,g3⟩=>⟨c,o,g1,b _ _ (fun z=>by rw[z,hx] at g2;cases g2) (fun z=>by rw[z,hd] at g2;cases g2) g2,g3⟩⟩
 exact⟨one h.1,one h.2.1,one h.2.2.1,one h.2.2.2.1,h.2.2.2.2⟩
theorem dl_upd {CR:RK->Addr}{xs ys:List V}(h:Dl CR H d lb bs k)(hp:H p=some (.lst xs))(ne:lb≠p):Dl CR (upd H p (.lst ys)) d lb bs k:=by
 obtain⟨dx,h1,h2,h3⟩:=h;exact⟨dx,by rw[a0q fun z=>by rw[z,hp] at h1;cases h1];exact h1,by rw[a0q ne];exact h2,h3⟩
theorem b3d {α:Type} [DecidableEq α]:∀{l m:List α},l.Nodup->(∀x∈l,x∈m)->l.length<=m.length
 | [],_,_,_=>A1v _
 | a::l,m,nd,h=>by
  rw[A3e] at nd;have h1:a∈m:=h a (by simp);have h2:=b3d (l:=l) (m:=m.erase a) nd.2 fun x hx=>(List.mem_erase_of_ne fun z=>nd.1 (by rw[<- z];exact hx)).mpr (h x (A0d _ hx));rw[List.length_erase_of_mem h1] at h2;have h3:=List.length_pos_of_mem h1;rw[A1a];omega
theorem wat_wv {ws:Wh}(nz:∀e∈ws,e.2≠(0,0))(b:Nat):wat ws b=if wv ws b=(0,0) then none else some (wv ws b):=by
 induction ws with
 | nil=>rfl
 | cons e ws ih=>
  obtain⟨a,p⟩:=e;rw[c8u]
  by_cases h:a=b
  ·subst h;rw[b7b,if_pos rfl,if_neg (nz (a,p) (by simp))]
  ·rw[a9q h,if_neg h];exact ih fun e he=>nz e (A0d _ he)
theorem wv_none {ws:Wh}{c:Nat}(h:∀e∈ws,e.1≠c):wv ws c=(0,0):=by
 induction ws with
 | nil=>rfl
 | cons e ws ih=>
  obtain⟨b,p⟩:=e;rw[c8u,if_neg (h (b,p) (by simp))];exact ih fun x hx=>h x (A0d _ hx)
theorem wv_key {ws:Wh}(nz:∀e∈ws,e.2≠(0,0))(b:Nat):b∈ws.map (·.1) ↔ wv ws b≠(0,0):=by
 constructor
 ·intro h z;have h1:=d6m h;rw[wat_wv nz,if_pos z] at h1;cases h1
 ·intro h;refine A9x fun z=>h (wv_none fun e he x=>z (List.mem_map.mpr ⟨e,he,x⟩))
theorem wv_same {ws:Wh}(nd:(ws.map (·.1)).Nodup)(nd':(ws'.map (·.1)).Nodup)(nz:∀e∈ws,e.2≠(0,0))(nz':∀e∈ws',e.2≠(0,0))(h:wv ws=wv ws'):ws.length=ws'.length/\∀b,wat ws b=wat ws' b:=by
 constructor
 ·have h1:=b3d nd (m:=ws'.map (·.1)) fun x hx=>(wv_key nz' x).mpr (by rw[<- h];exact(wv_key nz x).mp hx)
  have h2:=b3d nd' (m:=ws.map (·.1)) fun x hx=>(wv_key nz x).mpr (by rw[h];exact(wv_key nz' x).mp hx)
  rw[A0c,A0c] at h1 h2;omega
 ·intro b;rw[wat_wv nz,wat_wv nz',h]
theorem whAt_neS {a:Addr}{ws:Wh}(h:a8a K H a ws)(h2:a8a K H b ws')(nd:(ws.map (·.1)).Nodup)(nd':(ws'.map (·.1)).Nodup)(e:ws.length=ws'.length/\∀b,wat ws b=wat ws' b)(q:Q (.bl false) H):rEqM true K (.ref a) (.ref b) H Q:=by
 obtain⟨kvs,ha,h⟩:=h;obtain⟨kvs2,hb,h2⟩:=h2;refine st_eqM (.inl ha) (.inl hb) (h.dv nd) (h2.dv nd') ?_;rw[h.same h2 e.1 e.2 fun b hb=>d6m hb];exact q
theorem rEqD_intsL {a:Addr}{is js:List Int}(ha:SqL K H a (is.map V.int))(hb:SqL K H b (js.map V.int))(q:Q (.bl (decide (is=js))) H):rEqD K (.ref a) (.ref b) H Q:=
 ⟨_,_,.lst ha (a7y is),.lst hb (a7y js),A5h is,A5h js,by rw[A2q,L2.b6p];exact q⟩
theorem op_neMK (h:X.K=K)(hu:X.A.units+64<cLine):OpR X (compareOp .NotEq) (rEqM true K):=h▸op_neM hu
theorem word_look (d:Dd):¬d.k.word=A9h "look":=by cases d.k<;>decide +kernel
theorem Jt.same {n:Nat}{ws:Wh}{rs:List Row}(h:Jt n k ws rs)(hr:r∈rs):((ws.map (tE r)).map (·.1)).Nodup/\(ws.map (tE r)).length=ws.length/\∀b,wat (ws.map (tE r)) b=wat ws b:=by
 have nd:((ws.map (tE r)).map (·.1)).Nodup:=by
  rw[A3q];have:(ws.map ((·.1)∘tE r))=(ws.map (·.1)).map (· ^^^ r.x):=by rw[A3q];rfl
  rw[this];exact List.pairwise_map.mpr (B3g (fun h z=>h (xor_inj z)) h.wn.nd)
 have nz:∀e∈ws.map (tE r),e.2≠(0,0):=fun e he=>by
  obtain⟨u,hu,rfl⟩:=A1k.1 he;intro z;have z':a2q (trn r u.1) u.2=(0,0):=z;have h9:=congrArg (a2q (3*trn r u.1)) z';rw[a2v,b4t _ (by omega),b5e] at h9;exact h.wn.nz u hu h9
 have e:wv (ws.map (tE r))=wv ws:=funext fun c=>by
  rw[wv_sm nd,sm_tE,<- wv_sm h.wn.nd];have:=h.st r hr (c^^^r.x);rw[A0q,A1g,A1c] at this;exact this.symm
 exact⟨nd,wv_same nd h.wn.nd nz h.wn.nz e⟩
def RcAt (tt:TT)(te:TE)(σ:St)(Q:VK):V->Hp->Prop:=fun v H=>c4q (iRng1 (d1f (tC v) tNil)) tt te σ H Q
theorem st_crE {tt:TT}(h:ta σ H (RcAt tt te σ Q)):c4q (iRng1 (d1f ta tNil)) tt te σ H Q:=h
theorem join2 {T:Addr->Hp->Prop}{P:Addr->Hp->Prop}{G:Prop}(h1:(∀p H,P p H->T p H)->G)(h2:∀p H,P p H->T p H):G:=h1 h2
theorem c9w.pick {H:Hp}{n:Nat}{as:List Addr}{ss:List Sp1}(h:a4a (c9w H) as ss)(ok:∀s∈ss,s.Ok n):∀ys:List V,(∀y∈ys,y∈refs as)->∃bs ts,ys=refs bs/\a4a (c9w H) bs ts/\(∀s∈ts,s.Ok n)
 | [],_=>⟨[],[],rfl,.nil,fun _ z=>absurd z A2z⟩
 | y::ys,hy=>by
  obtain⟨bs,ts,e,hA,hk⟩:=c9w.pick h ok ys fun x hx=>hy x (A0d _ hx);obtain⟨i,hi⟩:=List.mem_iff_getElem?.1 (hy y A0k);obtain⟨b,hb,rfl⟩:=a6m hi;obtain⟨s,hs,hst⟩:=h.get hb;refine⟨b::bs,s::ts,by rw[e];rfl,.cons hst hA,fun t ht=>?_⟩
  rcases A3a.1 ht with rfl|ht
  ·exact ok _ (List.mem_of_getElem? hs)
  ·exact hk t ht
theorem a4t.kn (s:a4t H H'):Kn H H':=fun c o e _ m=>s c o e m
theorem a4t.md {K:A0a}{CM:MK->Addr}{H H':Hp}{x:Addr}{n:Nat}{kd:MK}{st:JS}(s:a4t H H')(h:Md K CM H x n kd st):Md K CM H' x n kd st:=by
 obtain⟨dx,a,y,e2⟩:=h.wires;exact Kn.md (a4t.kn s) h fun o e=>by rw[e2] at e;rw[<- e];exact s _ _ e2 (by intro ps z;cases z)
theorem a4t.dl {CR:RK->Addr}{H H':Hp}{d lb:Addr}{bs:List Nat}{i:Nat}(s:a4t H H')(h:Dl CR H d lb bs i):Dl CR H' d lb bs i:=by
 obtain⟨dx,e2⟩:=h.ins;exact Kn.dl (a4t.kn s) h fun o e=>by rw[e2] at e;rw[<- e];exact s _ _ e2 (by intro ps z;cases z)
theorem c2e.md {K:A0a}{CM:MK->Addr}{H H':Hp}{x d y C dx C' dx':Addr}{n:Nat}{kd:MK}{st:JS}{fs fs':List (Str×V)}(b:c2e x d H H')(hx:H x=some (.ins C dx fs))(hd:H d=some (.ins C' dx' fs'))(h:Md K CM H y n kd st)(n1:y≠x)(n2:y≠d):Md K CM H' y n kd st:=by
 obtain⟨dy,a,z,e2⟩:=h.wires;exact Kn.md (b.kn hx hd) h fun o e=>by rw[e2] at e;rw[<- e];exact b _ _ n1 n2 e2 (by intro ps z;cases z)
theorem c2e.dl {CR:RK->Addr}{H H':Hp}{x d y C dx C' dx' lb:Addr}{bs:List Nat}{i:Nat}{fs fs':List (Str×V)}(b:c2e x d H H')(hx:H x=some (.ins C dx fs))(hd:H d=some (.ins C' dx' fs'))(h:Dl CR H y lb bs i)(n1:y≠x)(n2:y≠d):Dl CR H' y lb bs i:=by
 obtain⟨dy,e2⟩:=h.ins;exact Kn.dl (b.kn hx hd) h fun o e=>by rw[e2] at e;rw[<- e];exact b _ _ n1 n2 e2 (by intro ps z;cases z)
theorem Jt.start (n:Nat):Jt n 0 [(0,(1,0))] (starts n):=by
 refine⟨⟨by simp,by simp,?_⟩,kept_start n,fun r hr=>?_,by simp,Bn.start⟩
 ·intro e he;rw[A0t.1 he];exact A1m n
 ·obtain⟨k,hk,rfl⟩:=A1k.1 hr;exact sb_of (n:=n) ⟨A1v _,A1m n,A1r (by decide) (A7s.1 hk)⟩ (stab_start n _)
theorem st_neTp {a:Addr}{bs:List Addr}(ha:SqL K H a (refs as))(hb:SqL K H b (refs bs))(h1:a4a (Tp H) as es)(h2:a4a (Tp H) bs es)(q:Q (.bl false) H):rNeD K (.ref a) (.ref b) H Q:=
 ⟨_,_,.lst ha (c9m (b7n h1)),.lst hb (c9m (b7n h2)),shaped_ft (b7n h1),shaped_ft (b7n h2),by rw[A2q,eqv_ft (b7n h1)];exact q⟩
def Kl (H H':Hp):Prop:=∀c o,H c=some o->(∀xs,o≠.lst xs)->H' c=some o
theorem But.kl {xs:List V}(b:But p H H')(e:H p=some (.lst xs)):Kl H H':=fun c o h m=>b c o (fun z=>by rw[z,e] at h;exact m _ (A0j h).symm) h
theorem Kl.sq (k:Kl H H'){a:Addr}{ys:List V}(s:SqT K H a ys):SqT K H' a ys:=by
 rcases s with (e|⟨o,e⟩)|e
 ·exact .inl (.inl (k _ _ e (by intro a z;cases z)))
 ·exact .inl (.inr ⟨o,k _ _ e (by intro a z;cases z)⟩)
 ·exact .inr e
theorem Kl.tab (k:Kl H H')(h:a4j H T l):a4j H' T l:=by
 obtain⟨ps,h1,h2,h3⟩:=h;exact⟨ps,k _ _ h1 (by intro a z;cases z),h2,h3.imp id fun⟨c,o,g1,g2,g3⟩=>⟨c,o,g1,k _ _ g2 (by intro a z;cases z),g3⟩⟩
theorem Kl.tabs (k:Kl H H'){T1 T2 T3:Addr}(h:c1a T1 T2 T3 T4 H):c1a T1 T2 T3 T4 H':=⟨k.tab h.1,k.tab h.2.1,k.tab h.2.2.1,k.tab h.2.2.2.1,h.2.2.2.2⟩
theorem Kl.dr (k:Kl H H')(h:Dr H f d):Dr H' f d:=by
 obtain⟨c,o,⟨c',oc,pm,ctv,g1,g2,g3⟩,h2,h3⟩:=h;exact⟨c,o,⟨c',oc,pm,ctv,k _ _ g1 (by intro a z;cases z),k _ _ g2 (by intro a z;cases z),g3⟩,k _ _ h2 (by intro a z;cases z),h3⟩
theorem Md.put {CM:MK->Addr}{n:Nat}{kd:MK}{s:JS}{v1:V}{us:List V}(h:Md K CM H x n kd s)(e:H p=some (.lst [.ref q0,v1]))(e0:H q0=some (.lst us))(b:But p H H'):Md K CM H' x n kd s:=by
 have k:=b.kl e
 cases kd with
 | ex=>
  obtain⟨a,⟨dx,hx⟩,kv,hk,r⟩:=h;exact⟨a,⟨dx,k _ _ hx (by intro a z;cases z)⟩,kv,k _ _ hk (by intro a z;cases z),r.stay fun y ys q=>k.sq q⟩
 | sg=>
  obtain⟨dx,a,xs,hx,h2,h3⟩:=h;refine⟨dx,a,xs,k _ _ hx (by intro a z;cases z),b _ _ (fun z=>?_) h2,h3.stay fun y ys q=>k _ _ q (by intro a z;cases z)⟩;rw[z,e] at h2;cases h2;obtain⟨r,t,_,e2,e3⟩:=h3.get (i:=0) rfl;cases e2;rw[e0] at e3;cases e3
theorem Dl.put {CR:RK->Addr}{i:Nat}{v1:V}(h:Dl CR H d lb bs i)(e:H p=some (.lst [.ref q0,v1]))(b:But p H H'):Dl CR H' d lb bs i:=by
 obtain⟨dx,h1,h2,h3⟩:=h;refine⟨dx,b.kl e _ _ h1 (by intro a z;cases z),b _ _ (fun z=>?_) h2,h3⟩;rw[z,e] at h2
 cases bs with
 | nil=>cases h2
 | cons c bs=>cases h2
structure LK (K:A0a)(CM:MK->Addr)(CR:RK->Addr)(T1 T2 T3 T4 pt:Addr)(GG:Hp)(n:Nat)(bs:List Nat)(x0 x2 x3 fC dC lC fD dD lD:Addr)(sf s2 s3:JS)(H:Hp):Prop where
 n20:x2≠x0
 n30:x3≠x0
 n32:x3≠x2
 nDC:dD≠dC
 kn:∀c o,c≠pt->GG c=some o->(∀C dx fs,o≠.ins C dx fs)->(∀ps,o≠.tbl ps)->H c=some o
 tb:c1a T1 T2 T3 T4 H
 m0:Md K CM H x0 n .ex sf
 m2:Md K CM H x2 n .ex s2
 m3:Md K CM H x3 n .sg s3
 r2:Dr H fC dC
 b2:Dl CR H dC lC bs s2.i
 r3:Dr H fD dD
 b3:Dl CR H dD lD bs s3.i
section
variable {K:A0a}{CM:MK->Addr}{CR:RK->Addr}{T1 T2 T3 T4 pt:Addr}{GG:Hp}{n:Nat}{bs:List Nat}{x0 x2 x3 fC dC lC fD dD lD:Addr}{sf s2 s3 s':JS}{H H':Hp}
theorem LK.same (h:LK K CM CR T1 T2 T3 T4 pt GG n bs x0 x2 x3 fC dC lC fD dD lD sf s2 s3 H)(s:a2f H H'):LK K CM CR T1 T2 T3 T4 pt GG n bs x0 x2 x3 fC dC lC fD dD lD sf s2 s3 H':=
 ⟨h.n20,h.n30,h.n32,h.nDC,fun c o hc e p q=>s _ _ (h.kn c o hc e p q),h.tb.to s,h.m0.stay s,h.m2.stay s,h.m3.stay s,h.r2.stay s,h.b2.stay s,h.r3.stay s,h.b3.stay s⟩
theorem LK.put {q0:Addr}{v1:V}{us:List V}(h:LK K CM CR T1 T2 T3 T4 pt GG n bs x0 x2 x3 fC dC lC fD dD lD sf s2 s3 H)(e:H pt=some (.lst [.ref q0,v1]))(e0:H q0=some (.lst us))(b:But pt H H'):LK K CM CR T1 T2 T3 T4 pt GG n bs x0 x2 x3 fC dC lC fD dD lD sf s2 s3 H':=
 ⟨h.n20,h.n30,h.n32,h.nDC,fun c o hc z p q=>b _ _ hc (h.kn c o hc z p q),(b.kl e).tabs h.tb,h.m0.put e e0 b,h.m2.put e e0 b,h.m3.put e e0 b,(b.kl e).dr h.r2,h.b2.put e b,(b.kl e).dr h.r3,h.b3.put e b⟩
theorem LK.kn2 (h:LK K CM CR T1 T2 T3 T4 pt GG n bs x0 x2 x3 fC dC lC fD dD lD sf s2 s3 H)(b:c2e x2 dC H H'):Kn H H':=by
 obtain⟨_,_,_,ix⟩:=h.m2.wires;obtain⟨_,jx⟩:=h.b2.ins;exact b.kn ix jx
theorem LK.kn3 (h:LK K CM CR T1 T2 T3 T4 pt GG n bs x0 x2 x3 fC dC lC fD dD lD sf s2 s3 H)(b:c2e x3 dD H H'):Kn H H':=by
 obtain⟨_,_,_,ix⟩:=h.m3.wires;obtain⟨_,jx⟩:=h.b3.ins;exact b.kn ix jx
theorem LK.step2 (h:LK K CM CR T1 T2 T3 T4 pt GG n bs x0 x2 x3 fC dC lC fD dD lD sf s2 s3 H)(b:c2e x2 dC H H')(t:c1a T1 T2 T3 T4 H')(m:Md K CM H' x2 n .ex s')(d:Dl CR H' dC lC bs s'.i):LK K CM CR T1 T2 T3 T4 pt GG n bs x0 x2 x3 fC dC lC fD dD lD sf s' s3 H':=by
 have k:=h.kn2 b;obtain⟨_,_,_,ix⟩:=h.m2.wires;obtain⟨_,jx⟩:=h.b2.ins;exact⟨h.n20,h.n30,h.n32,h.nDC,fun c o hc e p q=>k c o (h.kn c o hc e p q) p q,t,b.md ix jx h.m0 h.n20.symm (b3q h.m0 h.b2),m,b.md ix jx h.m3 h.n32 (b3q h.m3 h.b2),k.dr h.r2,d,k.dr h.r3,b.dl ix jx h.b3 (b3q h.m2 h.b3).symm h.nDC⟩
theorem LK.step3 (h:LK K CM CR T1 T2 T3 T4 pt GG n bs x0 x2 x3 fC dC lC fD dD lD sf s2 s3 H)(b:c2e x3 dD H H')(t:c1a T1 T2 T3 T4 H')(m:Md K CM H' x3 n .sg s')(d:Dl CR H' dD lD bs s'.i):LK K CM CR T1 T2 T3 T4 pt GG n bs x0 x2 x3 fC dC lC fD dD lD sf s2 s' H':=by
 have k:=h.kn3 b;obtain⟨_,_,_,ix⟩:=h.m3.wires;obtain⟨_,jx⟩:=h.b3.ins;exact⟨h.n20,h.n30,h.n32,h.nDC,fun c o hc e p q=>k c o (h.kn c o hc e p q) p q,t,b.md ix jx h.m0 h.n30.symm (b3q h.m0 h.b3),b.md ix jx h.m2 h.n32.symm (b3q h.m2 h.b3),m,k.dr h.r2,b.dl ix jx h.b2 (b3q h.m3 h.b2).symm h.nDC.symm,k.dr h.r3,d⟩
end
theorem ts_len {bs:List Nat}:∀(ss:List Sp1) (s:JS),(ss.foldl (a4u bs) s).ts.length<=s.ts.length+ss.length
 | [],_=>A0f _
 | st::ss,s=>by
  have h:=ts_len (bs:=bs) ss (a4u bs s st)
  have h1:(a4u bs s st).ts.length<=s.ts.length+1:=by
   cases st with
   | dd d=>exact B2j _
   | lk x z=>
    cases e:jv s.ws ⟨0,x,z⟩ with
    | some v=>rw[jstp_s e,A0s];exact A0f _
    | none=>rw[jstp_f e,A0s];exact A0f _
  rw[A1a];show (ss.foldl (a4u bs) (a4u bs s st)).ts.length<=_;omega
def Tld (H:Hp)(pt:Addr)(s2 s3:JS):Prop:=∃q0 q1 t0 t1,H pt=some (.lst [.ref q0,.ref q1])/\H q0=some (.lst (refs t0))/\H q1=some (.lst (refs t1))/\a4a (Tp H) t0 s2.ts/\a4a (Tp H) t1 s3.ts/\q0≠pt/\q1≠pt
theorem st_eqTL {r a1 a2:Addr}{t1 t2 tb:List Addr}(hp:SqL K H p [.ref a1,.ref a2])(hr:SqL K H r [.ref b,.ref b])(h1:SqL K H a1 (refs t1))(h2:SqL K H a2 (refs t2))(hb:SqL K H b (refs tb))(A1:a4a (Tp H) t1 es)(A2:a4a (Tp H) t2 es)(Ab:a4a (Tp H) tb es)(q:Q (.bl true) H):rEqD K (.ref p) (.ref r) H Q:=by
 have g1:=b7n A1
 have sh:∀xss:List (List V),a4a (Ft H) t1 xss->A4k (.list [.list (xss.map fun xs=>A3w (xs.map dV)),.list (xss.map fun xs=>A3w (xs.map dV))])=true:=fun xss g=>by
  have d1:=d4s (xss:=xss);unfold A4k;simp only[A6e,A5y,A7v,A4w,lay_ft g,A2d,decide_eq_true_eq];simp;omega
 refine⟨_,_,.lst hp (.cons (.lst h1 (c9m g1)) (.cons (.lst h2 (c9m (b7n A2))) .nil)),.lst hr (.cons (.lst hb (c9m (b7n Ab))) (.cons (.lst hb (c9m (b7n Ab))) .nil)),sh _ g1,sh _ g1,?_⟩;simp only[A2q,A4a,eqv_ft g1,A7a];exact q
section
variable {P:Program}{w:World}{K:A0a}{mg:Str->Option Value}{base:Heap}{a1g a0g a1e a0e a1h a0h:Addr}{C_NoWires C_NoProduct C_NoLook C_NoWhole a2d a0n C_WireError C_NoRow C_NoDeed C_NoWire a4c:Addr}{a7c:DK->Addr}{c2n:SK->Addr}{b1a:RK->Addr}
theorem lk1 {a b x:Str}(h:A3j x [(a,A9y),(b,A1z)]=some .free):x=b:=by
 have:=A0x h
 simpa using this
theorem ls_over (c:Addr):c5u ["b","bit"] ["b"] b9f [("bit",c)] where
 kind:=rfl
 co:=rfl
 gen:=rfl
 nd:=by decide +kernel
 pre:=rfl
 par:=by decide +kernel
 post:=fun i x h e=>by
  match i,h,e with
  | 1,_,e=>cases e;rfl
  | i+2,_,e=>cases e
 nocell:=by decide +kernel
 fr:=fun x h=>⟨c,by
  have h2:A3j x [(("b":Str),A9y),("bit",A1z)]=some .free:=h;rw[lk1 h2]
  rfl⟩
 inj:=fun x y d h1 h2=>by
  have e1:=A0x h1;have e2:=A0x h2;simp only[A0t,A3f] at e1 e2;rw[e1.1,e2.1]
 binds:=fun pm ctv c' us hl=>by
  match us,hl with
  | [_],_=>rfl
theorem lk2 {a b c d x:Str}{k:NameKind}(hk:k≠.free)(h:A3j x [(a,A9y),(b,A1z),(c,A1z),(d,k)]=some .free):x=b\/x=c:=by
 have:=A0x h;simp only[A3a,A3f,A2z,or_false] at this
 rcases this with ⟨_,z⟩|⟨z,_⟩|⟨z,_⟩|⟨_,z⟩
 ·cases z
 ·exact .inl z
 ·exact .inr z
 ·exact absurd z.symm hk
theorem ls_two {x:Str}{k:NameKind}(hcd:c≠d)(hk:k≠.free)(hkc:k≠.cell)(hn:l.scope.names=[(("b":Str),A9y),(("j":Str),A1z),(("k":Str),A1z),(x,k)])(h1:l.scope.kind=.function)(h2:l.scope.isCoroutine=false)(h3:l.scope.isGenerator=false)
  (hb:∀(pm ctv:Value) (c':Addr) (us:List Value),us.length=1->bindArgs (PySem.W.kla_fn "<lambda>" l.qual l.params l.body l.scope [("k",d),("j",c)] pm (.ref c') ctv) ⟨us,[]⟩=pure ((["b"]:List Str).zip us)):c5u ["b","j","k"] ["b"] l [("k",d),("j",c)] where
 kind:=h1
 co:=h2
 gen:=h3
 nd:=by decide +kernel
 pre:=rfl
 par:=fun y hy=>by
  rw[List.mem_singleton.mp hy,hn];rfl
 post:=fun i y h e=>by
  rw[hn]
  match i,h,e with
  | 1,_,e=>cases e;rfl
  | 2,_,e=>cases e;rfl
  | i+3,_,e=>cases e
 nocell:=fun y hy=>by
  rw[hn] at hy;simp only[A3a,A2z,or_false] at hy
  rcases hy with rfl|rfl|rfl|rfl
  ·decide
  ·decide
  ·decide
  ·exact hkc
 fr:=fun y h=>by
  rw[hn] at h
  rcases lk2 hk h with rfl|rfl
  ·exact⟨c,rfl⟩
  ·exact⟨d,rfl⟩
 inj:=fun y z e g1 g2=>by
  have e1:=A0x g1;have e2:=A0x g2;simp only[A3a,A3f,A2z,or_false] at e1 e2
  rcases e1 with ⟨a1,b1⟩|⟨a1,b1⟩<;>rcases e2 with ⟨a2,b2⟩|⟨a2,b2⟩
  ·rw[a1,a2]
  ·exact absurd (b2.symm.trans b1) hcd
  ·exact absurd (b1.symm.trans b2) hcd
  ·rw[a1,a2]
 binds:=hb
theorem cells_two {i:Nat}{b:V}(h1:d0u G c i)(h2:d0u G d j):d5q G ["b","j","k"] [("k",d),("j",c)] (([b]++[V.int (i:Int),V.int (j:Int)]).map some):=fun x e hx=>by
 have e1:=A0x hx;simp only[A3a,A3f,A2z,or_false] at e1
 rcases e1 with ⟨rfl,rfl⟩|⟨rfl,rfl⟩
 ·obtain⟨o,t,g1,g2⟩:=h2;refine⟨o,_,g1,g2,fun n v e1 e2=>?_⟩
  match n,e1,e2 with
  | 0,e1,_=>exact absurd (A0j e1) (by decide +kernel)
  | 1,e1,_=>exact absurd (A0j e1) (by decide +kernel)
  | 2,_,e2=>cases e2;exact⟨t,rfl⟩
  | n+3,e1,_=>cases e1
 ·obtain⟨o,t,g1,g2⟩:=h1;refine⟨o,_,g1,g2,fun n v e1 e2=>?_⟩
  match n,e1,e2 with
  | 0,e1,_=>exact absurd (A0j e1) (by decide +kernel)
  | 1,_,e2=>cases e2;exact⟨t,rfl⟩
  | 2,e1,_=>exact absurd (A0j e1) (by decide +kernel)
  | n+3,e1,_=>cases e1
theorem cells_one {i:Nat}{b:V}(h1:d0u G c i):d5q G ["b","bit"] [("bit",c)] (([b]++[V.int (i:Int)]).map some):=fun x e hx=>by
 have e1:=A0x hx;simp only[A0t,A3f] at e1;obtain⟨rfl,rfl⟩:=e1;obtain⟨o,t,g1,g2⟩:=h1;refine⟨o,_,g1,g2,fun n v e1 e2=>?_⟩
 match n,e1,e2 with
 | 0,e1,_=>exact absurd (A0j e1) (by decide +kernel)
 | 1,_,e2=>cases e2;exact⟨t,rfl⟩
 | n+2,e1,_=>cases e1
theorem lamL_ok (a1f:Cal P w K mg base CX0 1 "bit_at" ["number","k"] (b8y K))(a3q:Cal P w K mg base CX0 2 "exchanged" ["number","j","k"] (b1x K)):LCal P w K mg base 3 LL:=by
 refine⟨fun f vs H Q h=>?_,fun f A outer s H us vs Q hr e0 r h=>?_⟩
 ·obtain⟨b,g,rfl,hG,_⟩:=h;exact hG.fn
 ·obtain⟨b,g,rfl,hG,q⟩:=h
  cases hG with
  | over hL hc hi=>
   rename_i c i;refine d3u (k:=2) (ws:=[.int ((2^i:Nat):Int)]) (ls_over c) hr e0 r rfl rfl hL (cells_one hc) (fun p hp=>⟨"bit",by rw[List.mem_singleton.mp hp];rfl⟩) fun c'=>?_;have hr:=hr.deeper (A5r b9f.qual b9f.scope s.heap.objs.size f (.ref c') [("bit",c)]);refine⟨_,(a0t a3s (pv 0) (pv 1)),?_⟩;fail"go";rw[rec_unc];exact q
  | wher hL hcd hc hd hi hj=>
   rename_i c d i j
   refine d3u (k:=2) (ws:=[.int (i:Int),.int (j:Int)]) (ls_two hcd (by decide) (by decide) rfl rfl rfl rfl fun pm ctv c' us hl=>(match us,hl with|[_],_=>rfl)) hr e0 r rfl rfl hL (cells_two hc hd) (fun p hp=>by
    simp only[A3a,A2z,or_false] at hp
    rcases hp with rfl|rfl
    ·exact⟨"k",rfl⟩
    ·exact⟨"j",rfl⟩) fun c'=>?_
   have hr:=hr.deeper (A5r c6m.qual c6m.scope s.heap.objs.size f (.ref c') [("k",d),("j",c)]);refine⟨_,(a0t a3s (pv 0) (a0t a8g (a0y a1f hr a0u (a0a (pv 0) (a0a (pv 1) a0j))) (pv 2))),?_⟩;fail"go";refine⟨b,i,rfl,?_⟩;fail"go";rw[rec_unc];exact q
  | swap hL hcd hc hd hi hj=>
   rename_i c d i j
   refine d3u (k:=2) (ws:=[.int (i:Int),.int (j:Int)]) (ls_two hcd (by decide) (by decide) rfl rfl rfl rfl fun pm ctv c' us hl=>(match us,hl with|[_],_=>rfl)) hr e0 r rfl rfl hL (cells_two hc hd) (fun p hp=>by
    simp only[A3a,A2z,or_false] at hp
    rcases hp with rfl|rfl
    ·exact⟨"k",rfl⟩
    ·exact⟨"j",rfl⟩) fun c'=>?_
   have hr:=hr.deeper (A5r c5v.qual c5v.scope s.heap.objs.size f (.ref c') [("k",d),("j",c)]);refine⟨_,(a0y a3q hr a0u (a0a (pv 0) (a0a (pv 1) (a0a (pv 2) a0j)))),?_⟩;fail"go";refine⟨b,i,j,rfl,hi,hj,?_⟩;fail"go";rw[rec_unc];exact q
local macro_rules|`(tactic| fail"gq")=>`(tactic| repeat (first|fail"g0" | dsimp only[A6y,A6g]))
local macro_rules|`(tactic| fail"h0")=>`(tactic| with_reducible refine st_dget ?_)
variable {f:Addr}{fd:FuncData}(a1x:mg "isinstance" = none)(b_int:mg "int" = none)(b_bool:mg "bool" = none)(T_M:Txt_M K a5b)(a1t:Cal P w K mg base CX0 1 "is_whole_number" ["thing"] (b1j K))(a2c:CCal P w K mg base CX0 2 "Machine" "__init__" ["self","n","most"] (a6e K a5b))(a4m:GC mg "MOST_WIRES_EXACT" (.int 6))(b1g:GC mg "MOST_WIRES" (.int 40))(a6w:mg "range" = none)(d0h:mg "dict" = none)(b4n:mg "len" = none)(a1f:Cal P w K mg base CX0 1 "bit_at" ["number","k"] (b8y K))(T_R:Txt_R K b1a)(a1d:Cal P w K mg base CX0 1 "without_noughts" ["whole"] (b1q K))(h_lam:LCal P w K mg base 3 (LZ b1a))(T_D:Txt_D K a7c)(b2f:Cal P w K mg base CX0 4 "moved" ["whole","place_of"] (sp_moved K))(a5w:A4r base a1g a0g)(bm:BltM mg base)(a5s:Cal P w K mg base CX0 1 "times_i" ["pair","often"] (d2j K))(a2b:Cal P w K mg base CX0 2 "turned_where_down" ["whole","k","often"] (a9b K))(b1c:Cal P w K mg base CX0 1 "add_at" ["whole","b","pair"] (c8v K))(a5c:A4r base a1e a0e)(a5v:A4r base a1h a0h)(b1y:∀d:DK,b6y P w K mg base CX0 5 (a7c d) "on_whole" ["self","whole"] (a3k K a7c a0g a0e a0h a0n d))(a7e:GC mg "XS" (.int 1))(a7d:GC mg "ZS" (.int 2))(a1p:GC mg "MINUS" (.int 0))(a3q:Cal P w K mg base CX0 2 "exchanged" ["number","j","k"] (b1x K))(b6m:∀d:DK,b6y P w K mg base CX0 3 (a7c d) "on_row" ["self","row"] (c8h K a7c d))(b7a:mg "list" = none)(a0w:CCal P w K mg base CX0 1 "Deed" "__init__" ["self","word","undoer","at"] (a8z K a7c))(a4e:GTab K mg "WIRES_BEHIND" a4c [("over",1),("quarter",1),("back",1),("both",1),("where",2),("swap",2)])(d0x:mg "all" = none)(b2m:mg "tuple" = none)(b_str:mg "str" = none)(k_Swap:d1e P w K mg base CX0 2 "Swap" (a7c .swap) ["self","j","k"] (a8t K a7c))(k_Over:d1e P w K mg base CX0 2 "Over" (a7c .over) ["self","k"] (a8y K a7c))(c0y:d1e P w K mg base CX0 2 "Quarter" (a7c .quarter) ["self","k"] (a6b K a7c))(k_Back:d1e P w K mg base CX0 2 "Back" (a7c .back) ["self","k"] (a8x K a7c))(k_Both:d1e P w K mg base CX0 2 "Both" (a7c .both) ["self","k"] (a8u K a7c))(d6b:d1e P w K mg base CX0 2 "Where" (a7c .wher) ["self","j","k"] (a7s K a7c))(a9g:Cal P w K mg base CX0 2 "check_words" ["words"] (b6e K))(b_min:mg "min" = none)(c0s:∀d:DK,b6y P w K mg base CX0 1 (a7c d) "wires" ["self"] (d2h K a7c d))(a6x:Cal P w K mg base CX0 4 "deed_of_words" ["words"] (b2y K a7c))(b_max:mg "max" = none)(b6u:∀d:MK,b6y P w K mg base CX0 6 (a5b d) "follow" ["self","deed"] (c9v K a7c a5b a0g a0e a0h a0n d))(b0r:Cal P w K mg base CX0 5 "deed_of" ["words","n"] (c6y K a7c))(a8d:Cal P w K mg base CX0 1 "ones" ["number"] (sp_ones K))(a4y:Cal P w K mg base CX0 2 "letters_y" ["row"] (c2z K))(d4r:Cal P w K mg base CX0 2 "added" ["one","other"] (sp_added K))(b6q:Cal P w K mg base CX0 3 "acted_on" ["whole","row"] (c7k K))(a8k:Cal P w K mg base CX0 4 "half_by" ["whole","row","value"] (d3j K))(T_N:Txt_N K c2n)(a6a:∀d:SK,b6y P w K mg base CX0 1 (c2n d) "left_of" ["self","number","which"] (c3g K c2n d))(b1h:Cal P w K mg base CX0 1 "lowest_bit" ["number"] (b9u K))(c6r:∀d:SK,b6y P w K mg base CX0 2 (c2n d) "take" ["self","number"] (sp_N_take K c2n d))(a3n:Cal P w K mg base CX0 2 "goes_beside" ["one","other"] (b7m K))(b8w:Cal P w K mg base CX0 3 "times" ["one","other"] (sp_times K))(b1v:∀d:SK,b6y P w K mg base CX0 2 (c2n d) "parts_of" ["self","number"] (c0p K c2n d))(k_Span:d1e P w K mg base CX0 3 "Span" (c2n .span) ["self","numbers"] (a8n K c2n))(c6a:Cal P w K mg base CX0 1 "widest" ["rows"] (sp_widest K))(c6h:Cal P w K mg base CX0 2 "places" ["number"] (sp_places K))(b1k:Cal P w K mg base CX0 4 "product_of" ["rows"] (b9s K))(a5q:Cal P w K mg base CX0 1 "signs_number" ["row","n"] (b5j K))(c0e:Cal P w K mg base CX0 5 "made_of" ["rows","row"] (d3a K))(c_fits:Cal P w K mg base CX0 1 "fits" ["number","n"] (sp_fits K))(a9d:Cal P w K mg base CX0 2 "checked_row" ["thing","n"] (b7p K))(b3n:Cal P w K mg base CX0 2 "weight_of" ["row"] (c3k K))(a8c:∀d:MK,b6y P w K mg base CX0 6 (a5b d) "sure_value" ["self","row"] (b5x K a5b d))(b6j:∀d:MK,b6y P w K mg base CX0 5 (a5b d) "settle" ["self","row","value"] (c7p K a5b d))(a4x:Cal P w K mg base CX0 3 "check_look" ["row","n"] (b9z K))(a9n:Cal P w K mg base CX0 4 "value_drawn" ["draw"] (b7j K b1a))(b0n:Cal P w K mg base CX0 1 "is_look" ["step"] (d2z K))(a7n:Cal P w K mg base CX0 1 "look_row" ["look"] (c7s K))(b9a:∀d:MK,b6y P w K mg base CX0 1 (a5b d) "wires" ["self"] (d3g K a5b d))(c8w:∀d:MK,b6y P w K mg base CX0 7 (a5b d) "do" ["self","words"] (sp_M_do K a7c a5b a0g a0e a0h a0n d))(b3x:∀d:MK,b6y P w K mg base CX0 7 (a5b d) "look" ["self","row","draw"] (sp_M_look K a5b b1a d))(b1z:Cal P w K mg base CX0 6 "check_step" ["step","n"] (c0q K))(a0z:Cal P w K mg base CX0 1 "_law_mixed" ["_law_draw","_law_k"] (c0n K))(b0g:Cal P w K mg base CX0 2 "_law_bits" ["_law_draw","_law_k","_law_n"] (c3p K))(b1m:Cal P w K mg base CX0 2 "_law_words" ["_law_draw","_law_n"] (c0g K))(b1n:Cal P w K mg base CX0 3 "_law_signs" ["_law_draw","_law_n"] (c0x K))(d4y:d1e P w K mg base CX0 1 "Draws" (b1a .draws) ["self","numbers"] (a7r K b1a))(b1d:A4r base a2d a0n)(c0b:mg "sorted" = none)(a3x:Cal P w K mg base CX0 1 "_law_multiplied" ["_law_one_here","_law_other"] (b1w K))(a6u:Cal P w K mg base CX0 1 "_law_quarters" ["_law_number","_law_quarters_here"] (b4j K))(b0t:Cal P w K mg base CX0 1 "_law_ones" ["_law_number"] (c2w K))(a8j:∀d:Unit,b6y P w K mg base CX0 1 (a5b .ex) "whole" ["self"] (d2n K a5b d))(c6g:∀d:Unit,b6y P w K mg base CX0 1 (a5b .sg) "rows" ["self"] (sp_S_rows K a5b d))(b1e:Cal P w K mg base CX0 2 "_law_acted" ["_law_whole","_law_row"] (b9h K))(c9p:d1e P w K mg base CX0 3 "Exact" (a5b .ex) ["self","n"] (a7v K a5b))(c7n:d1e P w K mg base CX0 3 "Signs" (a5b .sg) ["self","n"] (a7k K a5b))(a3p:Cal P w K mg base CX0 1 "_law_cell_at" ["_law_script","_law_k"] (b5z K))(b2s:Cal P w K mg base CX0 8 "run_work" ["machine","work","draw"] (c9j K a5b b1a a0g a0e a0h a0n))(b6n:Cal P w K mg base CX0 4 "_law_one" ["_law_draw","_law_n"] (c7m K))(a5z:Cal P w K mg base CX0 3 "drawer_of" ["numbers"] (c3m K b1a a0g a0e a0h a0n))(b1f:Cal P w K mg base CX0 2 "_law_alike" ["_law_one_here","_law_other"] (b9m K))(a9u:Cal P w K mg base CX0 3 "_law_left" ["_law_exact","_law_signs_here"] (c3f K a5b))(b3y:Cal P w K mg base CX0 8 "_law_step" ["_law_machine","_law_words_here","_law_draw"] (c2y K a5b b1a a0g a0e a0h a0n))
include a1x b_int b_bool in theorem c0m (F:Fun K "is_whole_number" "is_whole_number" a7f f fd):a2k P w K mg base CX0 1 f fd ["thing"] (b1j K):=by
 refine F.ok c0w (by fail"ln") ?_;fail"fi";obtain⟨v,b,rfl,⟨t,b1,b2,ty,e1,e2,rfl⟩,q⟩:=h;refine⟨_,(a0m (a0x (pe_and (d3k rfl a1x (pv 0) b_int boot_int) (pe_one (pe_not (d3k rfl a1x (pv 0) b_bool boot_bool)))))),?_⟩;fail"st";fail"go";refine c0t ty e1 ?_
 cases b1 with
 | false=>
  fail"go";exact q
 | true=>
  fail"go";refine c0t ty e2 ?_;fail"go";exact q
include T_M a1t in theorem b7z (F:Fun K "__init__" "Machine.__init__" a6n f fd):a2k P w K mg base CX0 2 f fd ["self","n","most"] (a6e K a5b):=by
 refine F.ok b7v (by fail"ln") ?_;fail"fi";obtain⟨p,v,m,k,rfl,dx,hp,hq⟩:=h
 refine⟨_,(a0d (a3t (PW.pt (d6c (b4g (b0h (a0y a1t hr a0u (a0a (pv 1) a0j)))) (d6c (a1b op_lt (pv 1) a0k (a1j _)) (c3h (a1b op_gt (pv 1) (pv 2) (a1j _)))))) (a0m a4r) a1q)
   (a0m (a9a (pv 0) (pv 1) rfl))),?_⟩
 fail"st";fail"go"
 rcases hq with ⟨n,rfl,h1,hm,q⟩|hb
 ·refine⟨_,true,rfl,WN.int K H _,?_⟩;fail"go";refine b4m (fun c=>absurd c (by omega)) (fun _=>?_);fail"go";refine b4m (fun c=>absurd c (by omega)) (fun _=>?_);fail"go";exact a5n hp (T_M.cl k) (T_M.n_n k) (by decide) q
 ·exact hb.elim
include T_M a2c a4m in theorem c1e (F:Fun K "__init__" "Exact.__init__" a8w f fd):a2k P w K mg base CX0 3 f fd ["self","n"] (a7v K a5b):=by
 refine F.ok c2b (by fail"ln") ?_;fail"fi";obtain⟨p,v,rfl,dx,hp,hq⟩:=h
 refine⟨_,(a0d (a2y (pe_cm a2c hr a0u (a0a (pv 0) (a0a (pv 1) (a0a (a1z a4m) a0j)))))
   (a0m (a9a (pv 0) (pe_disp (pps_cons a0k (a2h (a0a a0k (a0a a0k a0j))) pps_nil) rfl rfl (List.cons_ne_nil _ _) (A5n rfl)) rfl))),?_⟩
 fail"st";fail"go"
 rcases hq with ⟨n,rfl,h1,hm,q⟩|hb
 rotate_left
 ·exact hb.elim
 refine⟨p,_,6,.ex,rfl,dx,hp,.inl ⟨n,rfl,h1,hm,?_⟩⟩;fail"go";refine st_disp1 (fun p1 hp1=>?_);fail"go";rename_i p2 hp2;refine st_disp2 (a0c hp2 _ _ _ a0b) ?_;obtain⟨g1,g2,g3⟩:=disp_at (K:=K) (b:=0) hp1 hp2;generalize upd (upd (upd (upd H p (.ins (a5b .ex) dx [("n",.int (n:Int))])) p1 (.dK [])) p2 (.tup [.int 1,.int 0])) p1 (.dK [(.inl 0,.ref p2)])=G at g1 g2 g3 ⊢;fail"go";refine a5n (g1 _ _ a0b) (T_M.cl .ex) (T_M.n_amounts .ex) (by simp) ?_;have hpp:p1≠p:=fun z=>by rw[z,a0b] at hp1;cases hp1
 have hH1:H p1=none:=by rw[a0q hpp] at hp1;exact hp1
 have hB:But p G (upd G p (.ins (a5b .ex) dx [("n",.int (n:Int)),("amounts",.ref p1)])):=But.upd;refine q p1 _ (fun c o hc e=>hB _ _ hc (g1 _ _ (by rw[a0q hc];exact e))) hH1 ⟨dx,a0b⟩ ⟨_,hB _ _ hpp g2,g3.stay fun y ys s=>?_⟩;exact c5s hB (g1 _ _ a0b) s
include T_M a2c b1g a6w in theorem c1m (F:Fun K "__init__" "Signs.__init__" a5u f fd):a2k P w K mg base CX0 3 f fd ["self","n"] (a7k K a5b):=by
 refine F.ok b2p (by fail"ln") ?_;fail"fi";obtain⟨p,v,rfl,dx,hp,hq⟩:=h
 refine⟨_,(a0d (a2y (pe_cm a2c hr a0u (a0a (pv 0) (a0a (pv 1) (a0a (a1z b1g) a0j)))))
   (a0m (a9a (pv 0) (a8q (sc:=a0f a5u) rfl (by fail"k5") (by show ("k":Str)∉(["self","n"]:List Str);decide +kernel) (by show (".0":Str)∉(["self","n"]:List Str);decide +kernel) b2p.nd rfl (b5y rfl a6w (a0a (pv 1) a0j)) (fun _ _ _ _=>a8v) (fun _ _ _ _=>(a2h (a0a a0k (a0a a0k (a0a (a0t a8g a0k (pv 0)) a0j)))))) rfl))),?_⟩
 fail"st";fail"go"
 rcases hq with ⟨n,rfl,h1,hm,q⟩|hb
 rotate_left
 ·exact hb.elim
 refine⟨p,_,40,.sg,rfl,dx,hp,.inl ⟨n,rfl,h1,hm,?_⟩⟩;have g0:(upd H p (.ins (a5b .sg) dx [("n",.int (n:Int))])) p=some (.ins (a5b .sg) dx [("n",.int (n:Int))]):=a0b;have gB:But p H (upd H p (.ins (a5b .sg) dx [("n",.int (n:Int))])):=But.upd;generalize upd H p (.ins (a5b .sg) dx [("n",.int (n:Int))])=G at g0 gB ⊢;fail"go";refine b3v (n:=n) (by omega) (fun P h=>⟨_,rfl,h⟩) (fun i ys H'=>a2f G H'/\RL K H' ((A5d i).map fun k=>⟨0,0,2^k⟩) ys) ⟨a2f.refl _,.nil⟩ ?_ ?_ ?_
 ·rintro i ys H' ⟨_,h2⟩;have:=h2.len;rw[A0c,List.length_range] at this;omega
 ·rintro i ys H' hi ⟨h1,h2⟩;refine d2s ?_;fail"go";rename_i p2 hp2;refine⟨h1.trans (a0c hp2 _),?_⟩;rw[List.range_succ,A1b];exact(h2.stay fun y ys s=>a0c hp2 _ _ _ s).snoc a0b
 ·rintro ys H' ⟨h1,h2⟩ p1 hp1;have k1:=a0c hp1 (.lst ys) _ _ (h1 _ _ g0);fail"go";refine a5n k1 (T_M.cl .sg) (T_M.n_kept .sg) (by simp) ?_;have hB:But p (upd H' p1 (.lst ys)) (upd (upd H' p1 (.lst ys)) p (.ins (a5b .sg) dx [("n",.int (n:Int)),("kept",.ref p1)])):=But.upd;have hpp:p1≠p:=fun z=>by rw[z,h1 _ _ g0] at hp1;cases hp1
  refine q _ (fun c o hc e=>hB _ _ hc (a0c hp1 _ _ _ (h1 _ _ (gB _ _ hc e)))) ⟨dx,p1,ys,a0b,hB _ _ hpp a0b,?_⟩;exact(h2.stay fun y ys s=>a0c hp1 _ _ _ s).stay fun y ys s=>hB _ _ (fun z=>by rw[z,k1] at s;cases s) s
include T_M d0h in theorem d1a (F:Fun K "whole" "Exact.whole" b3s f fd):a2k P w K mg base CX0 1 f fd ["self"] (b7d K a5b):=by
 refine F.ok d0v (by fail"ln") ?_;fail"fi";obtain⟨x,a,n,ws,rfl,⟨dx,hx⟩,hA,q⟩:=h;refine⟨_,(a0m (a0x (b5u d2m rfl d0h boot_dict (a0a (a2g (pv 0) rfl) a0j)))),?_⟩;obtain⟨kvs,hk,hwr⟩:=hA;fail"st";fail"go";refine a1m hx (T_M.cl .ex) (T_M.n_amounts .ex) rfl ?_;fail"go";refine st_dict hk fun p hp=>?_;exact q p _ (a0c hp _) hp ⟨kvs,a0b,hwr.stay fun y ys s=>(a0c hp _).tup s⟩
include b4n in theorem c9d (F:Fun K "_law_cell_at" "_law_cell_at" b2c f fd):a2k P w K mg base CX0 1 f fd ["_law_script","_law_k"] (b5z K):=by
 refine F.ok c8j (by fail"ln") ?_;fail"fi";obtain⟨a,k,ns,rfl,ha,q⟩:=h
 refine⟨_,(a0d (a3t (a1b op_lt (pv 1) (a3e a9v rfl b4n A5f (a0a (pv 0) a0j)) (a1j _)) (a0m (a0x (a0v a7q (pv 0) (pv 1)))) a1q)
   (a0m (a0x a0k))),?_⟩
 fail"st";fail"go";refine b4m (fun c=>?_) (fun c=>?_)
 ·rw[A0c] at c;obtain⟨x,ex⟩:=at_i (cs:=ns) (i:=k) (by omega);fail"go";exact q x
 ·fail"go";exact q 0
include T_M in theorem c4j (F:Fun K "wires" "Machine.wires" b0y f fd):a2k P w K mg base CX0 1 f fd ["self"] (b4a K a5b):=by
 refine F.ok c5b (by fail"ln") ?_;fail"fi";obtain⟨x,n,rfl,⟨k,dx,fs,hx⟩,q⟩:=h;refine⟨_,(a0m (a0x (a2g (pv 0) rfl))),?_⟩;fail"st";fail"go";exact a1m hx (T_M.cl k) (T_M.n_n k) rfl q
theorem c0u (F:Fun K "without_noughts" "without_noughts" a7j f fd):a2k P w K mg base CX0 1 f fd ["whole"] (b1q K):=by
 refine F.ok a4p (by fail"ln") ?_;fail"fi";obtain⟨a,ws,rfl,⟨kvs,ha,hWR⟩,nd,hl,q⟩:=h
 refine⟨_,(a0d (a1k 1 a4p.nd b6c)
   (a0d (b8d (b0e A1y rfl (b3e (pv 0)) (b5f rfl (a2e (a2a (i:=2) a4p.nd rfl (Or.inl rfl)) (a2e (a2a (i:=3) a4p.nd rfl (Or.inl rfl)) b0v))) (a0m (a3t (a1b (op_neD (b3g hr)) (pv 3) (a2h (a0a a0k (a0a a0k a0j))) (a1j _)) (a0m (c1g (c7b hr) (pv 1) (pv 2) (pv 3) rfl)) a1q))))
   (a0m (a0x (pv 1))))),?_⟩
 fail"st";fail"go";rename_i p hp;have hpa:p≠a:=A1e (a0p ha hp);refine a4v (fun P h=>⟨_,rfl,h⟩) (a0c hp _ _ _ ha) (fun o i σ H'=>∃(u0 u1:Option V) (kvs':List (Key×V)),σ=[some (.ref a),some (.ref p),u0,u1]/\H' a=some (.frz o (.dK kvs))/\H' p=some (.dK kvs')/\WR K H' (wnz (ws.take i)) kvs'/\But a H H') ?_ ?_ ?_ ?_
 ·intro o;refine⟨none,none,[],rfl,a0b,by rw[a0q hpa];exact a0b,.nil,fun c o' hc e=>?_⟩;rw[a0q hc];exact a0c hp _ _ _ e
 ·rintro o i σ H' ⟨u0,u1,kvs',_,h1,_⟩;exact h1
 ·rintro o i k v σ H' x hget ⟨u0,u1,kvs',rfl,h1,h2,h3,h5⟩ hx;obtain⟨b,pp,a',e1,rfl,rfl,sq⟩:=hWR.get hget;have hil:i<ws.length:=(List.getElem?_eq_some_iff.mp e1).1;have sq':SqT K (upd H' x (.tup [kV (.inl ((b:Nat):Int)),.ref a'])) a' [.int pp.1,.int pp.2]:=(a0c hx _).tup (h5.tup ha _ _ sq);have hp2:=a0c hx (.tup [kV (.inl ((b:Nat):Int)),.ref a']) _ _ h2;have ha2:=a0c hx (.tup [kV (.inl ((b:Nat):Int)),.ref a']) _ _ h1;have hB2:But a H (upd H' x (.tup [kV (.inl ((b:Nat):Int)),.ref a'])):=fun c o' hc e=>a0c hx _ _ _ (h5 _ _ hc e);have h3':=h3.stay (K:=K) (H':=upd H' x (.tup [kV (.inl ((b:Nat):Int)),.ref a'])) (fun y ys s=>(a0c hx _).tup s);have ht0:SqT K (upd H' x (.tup [kV (.inl ((b:Nat):Int)),.ref a'])) x [.int ((b:Nat):Int),.ref a']:=SqT.of a0b;generalize upd H' x (.tup [kV (.inl ((b:Nat):Int)),.ref a'])=G at sq' hp2 ha2 hB2 h3' ht0 ⊢;fail"go";rename_i p0 hp0;have n0:=a0c hp0 (.tup [.int 0,.int 0]);have hst:=wnz_step nd e1;have hlen:=h3'.len;have hle:=wnz_len (ws.take i);rw[A0u] at hle
  by_cases c:pp=(0,0)
  ·rw[if_neg (fun z=>z c)] at hst;subst c;fail"go";refine⟨_,_,kvs',rfl,n0 _ _ ha2,n0 _ _ hp2,?_,fun c o' hc e=>n0 _ _ (hB2 _ _ hc e)⟩;rw[hst];exact h3'.stay (fun y ys s=>n0.tup s)
  ·rw[if_pos c] at hst
   have ec:(!decide ([pp.1,pp.2]=[(0:Int),0]))=true:=by
    rw[dec_pair pp (0,0),decide_eq_false c];rfl
   rw[ec];fail"go";have hB:But p (upd G p0 (.tup [.int 0,.int 0])) (upd (upd G p0 (.tup [.int 0,.int 0])) p (.dK (c5r kvs' (.inl ((b:Nat):Int)) (.ref a')))):=But.upd;refine⟨p,_,rfl,c8t (n0 _ _ hp2) (by omega),_,_,_,rfl,hB _ _ (A1e hpa) (n0 _ _ ha2),a0b,?_,fun c o' hc e=>hB _ _ (a0p e hp) (n0 _ _ (hB2 _ _ hc e))⟩;rw[hst];exact((h3'.stay (fun y ys s=>n0.tup s)).stay (fun y ys s=>hB.tup (n0 _ _ hp2) y ys s)).put (hB.tup (n0 _ _ hp2) _ _ (n0.tup sq'))
 ·rintro o σ H' ⟨u0,u1,kvs',rfl,h1,h2,h3,h5⟩;rw[hWR.len,A1h] at h3
  have SS:a2f H (upd H' a (.dK kvs)):=fun c o' e=>by
   by_cases hc:c=a
   ·subst hc;rw[ha] at e;rw[a0b];exact e
   ·rw[a0q hc];exact h5 _ _ hc e
  have hW:a8a K (upd H' a (.dK kvs)) p (wnz ws):=⟨kvs',by rw[a0q hpa];exact h2,h3.stay (b8h h1)⟩;fail"go";exact q p _ SS hp hW
theorem ok_bit_at (F:Fun K "bit_at" "bit_at" d6y f fd):a2k P w K mg base CX0 1 f fd ["number","k"] (b8y K):=by
 refine F.ok sc_bit_at (by fail"ln") ?_;fail"fi";obtain⟨n,k,rfl,q⟩:=h;refine⟨_,(a0m (a0x (a0t a5h (a0t op_shr (pv 0) (pv 1)) a0k))),?_⟩;fail"go";exact q
include a1f in theorem ok_exchanged (F:Fun K "exchanged" "exchanged" b8a f fd):a2k P w K mg base CX0 2 f fd ["number","j","k"] (b1x K):=by
 refine F.ok c3d (by fail"ln") ?_;fail"fi";obtain⟨n,i,j,rfl,hi,hj,q⟩:=h
 refine⟨_,(a0d (a1k 3 c3d.nd (a0t a3s (a0y a1f hr a0u (a0a (pv 0) (a0a (pv 1) a0j))) (a0y a1f hr a0u (a0a (pv 0) (a0a (pv 2) a0j)))))
   (a0m (a0x (a0t a3s (a0t a3s (pv 0) (a0t a8g (pv 3) (pv 1))) (a0t a8g (pv 3) (pv 2)))))),?_⟩
 fail"go";refine⟨n,i,rfl,?_⟩;fail"go";refine⟨n,j,rfl,?_⟩;fail"go";exact q
include b4n T_R in theorem d4a (F:Fun K "draw" "Draws.draw" b4r f fd):a2k P w K mg base CX0 1 f fd ["self"] (b9t K b1a):=by
 refine F.ok d7e (by fail"ln") ?_;fail"fi";obtain⟨d,lb,bs,k,rfl,⟨dx,hd,hlb,hk,hbl,hb1⟩,q⟩:=h
 refine⟨_,(a0d (a3t (a1b a8r (a2g (pv 0) rfl) (a3e a9v rfl b4n A5f (a0a (a2g (pv 0) rfl) a0j)) (a1j _)) (a0m (a0x a0k)) a1q)
   (a0d (a9a (pv 0) (a0t a3v (a2g (pv 0) rfl) a0k) rfl)
   (a0m (a0x (a0v a7q (a2g (pv 0) rfl) (a0t b7q (a2g (pv 0) rfl) a0k)))))),?_⟩
 fail"st";have slb:=SqL.of (K:=K) hlb;fail"go";refine a1m hd (T_R.cl _) (T_R.n_told _) d6u ?_;fail"go";refine a1m hd (T_R.cl _) (T_R.n_bits _) rfl ?_;fail"go";rw[c8d];refine b4m (fun c=>?_) (fun c=>?_)
 ·have e:k=bs.length:=by omega
  fail"go";have e2:bs.getD k 0=0:=by rw[List.getD_eq_getElem?_getD,List.getElem?_eq_none (by omega)];rfl
  have e3:nxt bs k=k:=if_pos e;rw[e2,e3] at q;exact q H (fun _ _ _ z=>z) ⟨dx,hd,hlb,hk,hbl,hb1⟩
 ·have hlt:k<bs.length:=by omega
  fail"go";refine a1m hd (T_R.cl _) (T_R.n_told _) d6u ?_;fail"go";refine a5n hd (T_R.cl .draws) (T_R.n_told .draws) (by show 2<1000;decide) ?_;rw[tflds_put];have hB:But d H (upd H d (.ins (b1a .draws) dx [("bits",.ref lb),("told",.int ((k:Int)+1))])):=But.upd;have g1:(upd H d (.ins (b1a .draws) dx [("bits",.ref lb),("told",.int ((k:Int)+1))])) d=some (.ins (b1a .draws) dx [("bits",.ref lb),("told",.int ((k:Int)+1))]):=a0b;have hne:lb≠d:=fun z=>by rw[z,hd] at hlb;cases hlb
  have g2:=hB _ _ hne hlb;generalize upd H d (.ins (b1a .draws) dx [("bits",.ref lb),("told",.int ((k:Int)+1))])=G at hB g1 g2 ⊢;have slb2:=SqL.of (K:=K) g2;fail"go";refine a1m g1 (T_R.cl _) (T_R.n_bits _) rfl ?_;fail"go";refine a1m g1 (T_R.cl _) (T_R.n_told _) d6u ?_;fail"go";rw[show (k:Int)+1-1=(k:Int) by omega];refine c9x slb2 (c2m (v:=V.int ((bs[k]:Nat):Int)) (by unfold vn;rw[List.getElem?_map,List.getElem?_eq_getElem hlt];rfl)) ?_;have e2:bs.getD k 0=bs[k]:=by rw[List.getD_eq_getElem?_getD,List.getElem?_eq_getElem hlt];rfl
  have e3:nxt bs k=k+1:=if_neg (by omega);rw[e2,e3] at q;exact q G hB ⟨dx,by rw[g1];rfl,g2,hlt,hbl,hb1⟩
theorem ls_draw (c:Addr):c5u ["draws"] [] a5d [("draws",c)] where
 kind:=rfl
 co:=rfl
 gen:=rfl
 nd:=by decide +kernel
 pre:=rfl
 par:=by decide +kernel
 post:=fun i x h e=>by
  match i,h,e with
  | 0,_,e=>cases e;rfl
  | i+1,_,e=>cases e
 nocell:=by decide +kernel
 fr:=fun x h=>⟨c,by
  have h2:A3j x [(("draws":Str),A1z)]=some .free:=h;have:=A0x h2;simp only[A0t,A3f] at this;rw[this.1]
  rfl⟩
 inj:=fun x y d h1 h2=>by
  have e1:=A0x h1;have e2:=A0x h2;simp only[A0t,A3f] at e1 e2;rw[e1.1,e2.1]
 binds:=fun pm ctv c' us hl=>(match us,hl with|[],_=>rfl)
theorem cells_ref {d:Addr}(h1:G c=some (exO c o))(h2:o.data=.cell (some (.ref d))):d5q G ["draws"] [("draws",c)] ((([]:List V)++[V.ref d]).map some):=fun x e hx=>by
 have e1:=A0x hx;simp only[A0t,A3f] at e1;obtain⟨rfl,rfl⟩:=e1;refine⟨o,_,h1,h2,fun n v e1 e2=>?_⟩
 match n,e1,e2 with
 | 0,_,e2=>cases e2;rfl
 | n+1,e1,_=>cases e1
theorem lamD_ok (b9y:∀d:RK,b6y P w K mg base CX0 1 (b1a d) "draw" ["self"] (c8k K b1a d))(T_R:Txt_R K b1a):LCal P w K mg base 3 (LD b1a):=by
 refine⟨fun f vs H Q h=>?_,fun f A outer s H us vs Q hr e0 r h=>?_⟩
 ·obtain⟨d,lb,bs,k,rfl,⟨c,o,⟨c',oc,pm,ctv,hf,_⟩,_⟩,_⟩:=h;exact⟨_,_,hf,rfl⟩
 ·obtain⟨d,lb,bs,k,rfl,⟨c,o,hL,hc,hcd⟩,hd,q⟩:=h;refine d3u (k:=2) (ws:=[.ref d]) (ls_draw c) hr e0 r rfl rfl hL (cells_ref hc hcd) (fun p hp=>⟨"draws",by rw[List.mem_singleton.mp hp];rfl⟩) fun c'=>?_;have hr:=hr.deeper (A5r a5d.qual a5d.scope s.heap.objs.size f (.ref c') [("draws",c)]);refine⟨_,(c8e b9y hr a0u (pv 0)),?_⟩
  have out:∀a o',H a=some o'->a≠c->unc [("draws",c)] H a=some o':=fun a o' e n=>by
   rw[a4k (by simpa using n)];exact e
  obtain⟨dx,h1,h2,h3,h4,h5⟩:=hd;have nd:d≠c:=fun z=>by rw[z,hc] at h1;cases h1
  have nl:lb≠c:=fun z=>by rw[z,hc] at h2;cases h2
  fail"go";refine a4q (d:=RK.draws) (out _ _ h1 nd) (rfl_no _ _) ?_;fail"go";refine⟨d,lb,bs,k,rfl,⟨dx,out _ _ h1 nd,out _ _ h2 nl,h3,h4,h5⟩,fun H' hB hd'=>?_⟩
  have recO:∀a,a≠c->rec_ [("draws",c)] H H' a=H' a:=fun a n=>by
   show (if a∈[c] then H a else H' a)=_;rw[if_neg (by simpa using n)]
  have recI:rec_ [("draws",c)] H H' c=H c:=by
   show (if c∈[c] then H c else H' c)=_;rw[if_pos (by simp)]
  obtain⟨dx',g1,g2,g3⟩:=hd';refine q _ (fun a o' ha e=>?_) ⟨dx',by rw[recO d nd];exact g1,by rw[recO lb nl];exact g2,g3⟩
  by_cases z:a=c
  ·rw[z,recI,<- z];exact e
  ·rw[recO a z];exact hB a o' ha (out a o' e z)
theorem lam_ok (a1f:Cal P w K mg base CX0 1 "bit_at" ["number","k"] (b8y K))(a3q:Cal P w K mg base CX0 2 "exchanged" ["number","j","k"] (b1x K))(b9y:∀d:RK,b6y P w K mg base CX0 1 (b1a d) "draw" ["self"] (c8k K b1a d))(T_R:Txt_R K b1a):LCal P w K mg base 3 (LZ b1a):=by
 have a:=lamL_ok (P:=P) (w:=w) (K:=K) (mg:=mg) (base:=base) a1f a3q;have b:=lamD_ok (P:=P) (w:=w) (K:=K) (mg:=mg) (base:=base) (b1a:=b1a) b9y T_R;refine⟨fun f vs H Q h=>?_,fun f A outer s H us vs Q hr e0 r h=>?_⟩
 ·rcases h with h|h
  ·exact a.1 f vs H Q h
  ·exact b.1 f vs H Q h
 ·rcases h with h|h
  ·exact a.2 f A outer s H us vs Q hr e0 r h
  ·exact b.2 f A outer s H us vs Q hr e0 r h
include a1d h_lam in theorem ok_moved (F:Fun K "moved" "moved" s_moved f fd):a2k P w K mg base CX0 4 f fd ["whole","place_of"] (sp_moved K):=by
 refine F.ok c6j (by fail"ln") ?_;fail"fi";obtain⟨a,f1,ws,g,rfl,⟨kvs,ha,hWR⟩,nd,hl,hG,q⟩:=h
 refine⟨_,(a0d (a1k 2 c6j.nd b6c)
   (a0d (b8d (b0e A1y rfl (b3e (pv 0)) (b5f rfl (a2e (a2a (i:=3) c6j.nd rfl (Or.inl rfl)) (a2e (a2a (i:=4) c6j.nd rfl (Or.inl rfl)) b0v))) (a0m (c1g (c7b hr) (pv 2) (pe_callF 1 h_lam hr (a0a (pv 3) a0j)) (pv 4) rfl))))
   (a0m (a0x (a0y a1d hr a0u (a0a (pv 2) a0j)))))),?_⟩
 fail"st";fail"go";rename_i p hp;have hpa:p≠a:=A1e (a0p ha hp);refine a4v (fun P h=>⟨_,rfl,h⟩) (a0c hp _ _ _ ha) (fun o i σ H'=>∃(u0 u1:Option V) (kvs':List (Key×V)),σ=[some (.ref a),some (.ref f1),some (.ref p),u0,u1]/\H' a=some (.frz o (.dK kvs))/\H' p=some (.dK kvs')/\WR K H' ((ws.take i).map fun e=>(g e.1,e.2)) kvs'/\But a H H') ?_ ?_ ?_ ?_
 ·intro o;refine⟨none,none,[],rfl,a0b,by rw[a0q hpa];exact a0b,.nil,fun c o' hc e=>?_⟩;rw[a0q hc];exact a0c hp _ _ _ e
 ·rintro o i σ H' ⟨u0,u1,kvs',_,h1,_⟩;exact h1
 ·rintro o i k v σ H' x hget ⟨u0,u1,kvs',rfl,h1,h2,h3,h5⟩ hx;obtain⟨b,pp,a',e1,rfl,rfl,sq⟩:=hWR.get hget;have hil:i<ws.length:=(List.getElem?_eq_some_iff.mp e1).1;have sq':SqT K (upd H' x (.tup [kV (.inl ((b:Nat):Int)),.ref a'])) a' [.int pp.1,.int pp.2]:=(a0c hx _).tup (h5.tup ha _ _ sq);have hp2:=a0c hx (.tup [kV (.inl ((b:Nat):Int)),.ref a']) _ _ h2;have ha2:=a0c hx (.tup [kV (.inl ((b:Nat):Int)),.ref a']) _ _ h1;have hB2:But a H (upd H' x (.tup [kV (.inl ((b:Nat):Int)),.ref a'])):=fun c o' hc e=>a0c hx _ _ _ (h5 _ _ hc e);have h3':=h3.stay (K:=K) (H':=upd H' x (.tup [kV (.inl ((b:Nat):Int)),.ref a'])) (fun y ys s=>(a0c hx _).tup s);have ht0:SqT K (upd H' x (.tup [kV (.inl ((b:Nat):Int)),.ref a'])) x [.int ((b:Nat):Int),.ref a']:=SqT.of a0b;generalize upd H' x (.tup [kV (.inl ((b:Nat):Int)),.ref a'])=G at sq' hp2 ha2 hB2 h3' ht0 ⊢;have hGG:LamG G f1 g:=hG.ex fun c o' e=>hB2 _ _ (c3r e ha (by intro z;cases z)) e;obtain⟨fo,ffd,hfo,hfd⟩:=hGG.fn;fail"go";refine st_callF rfl hfo hfd ?_;fail"go";refine .inl ⟨b,g,rfl,hGG,?_⟩;have hB:But p G (upd G p (.dK (c5r kvs' (.inl ((g b:Nat):Int)) (.ref a')))):=But.upd;have hlen:=h3'.len;rw[A0c,A0u] at hlen;fail"go";refine⟨p,_,rfl,c8t hp2 (by omega),_,_,_,rfl,hB _ _ (A1e hpa) ha2,a0b,?_,fun c o' hc e=>hB _ _ (a0p e hp) (hB2 _ _ hc e)⟩;rw[d4b (f:=fun e=>(g e.1,e.2)) nd e1];exact(h3'.stay (fun y ys s=>hB.tup hp2 y ys s)).put (hB.tup hp2 _ _ sq')
 ·rintro o σ H' ⟨u0,u1,kvs',rfl,h1,h2,h3,h5⟩;rw[hWR.len,A1h] at h3
  have SS:a2f H (upd H' a (.dK kvs)):=fun c o' e=>by
   by_cases hc:c=a
   ·subst hc;rw[ha] at e;rw[a0b];exact e
   ·rw[a0q hc];exact h5 _ _ hc e
  have hW:a8a K (upd H' a (.dK kvs)) p (ws.map fun e=>(g e.1,e.2)):=⟨kvs',by rw[a0q hpa];exact h2,h3.stay (b8h h1)⟩;fail"go";refine⟨p,_,rfl,hW,by rw[A3q];exact nd,by rw[A0c];exact hl,fun p2 H2 s2 np2 hW2=>?_⟩;fail"go";exact q p2 H2 (SS.trans s2) (b6r SS np2) hW2
include T_D b2f a5w bm in theorem c3z (F:FunC K "on_whole" "Over.on_whole" a3c f fd a1g):a2k P w K mg base CX0 5 f fd ["self","whole"] (c4e K a7c a0g a0e a0h a0n):=by
 refine F.ok b4b (by fail"ln") (fun A outer s H vs Q E hr h=>?_);obtain⟨x,a,⟨k,w'⟩,ws,rfl,hk,⟨dx,t,ha,ht,hlw⟩,hnd,hw,hA,nd,hl,hT,q⟩:=h;dsimp only at hk ha ht hlw hw hnd;subst hk;obtain⟨i,rfl⟩:=a9r hlw;have hi:i<=1000:=hw i (by simp);have ht':SqT K H t [.int (i:Nat)]:=SqT.of ht
 refine⟨_,(a0d (b2w (i:=2) b4b.nd rfl (Or.inr rfl) (a0t a8g a0k (a0v a0s (a2g (pv 0) rfl) a0k)))
   (a0m (a0x (pe_fnL b2f hr a5w bm (pv 1))))),?_⟩
 fail"st";fail"go";refine a1m ha (T_D.cl _) (T_D.n_at _) (a5a _ _) ?_;fail"go";refine d7d ?_;fail"go";refine st_lam hT.1 fun f1 H1 sx t1 nf hL=>?_;fail"go";intro G cov;have hne:=nd4 hT.2.2.2.2;obtain⟨ps1,hps1,_⟩:=id hT.1;have sT:=sx.t hps1
 have fin:∀p H2,a2f G H2->G p=none->a8a K H2 p (wnz (a6k ⟨.over,[i]⟩ ws))->Q (.ref p) (unc [("bit",s.heap.objs.size+1)] H2):=fun p H2 s2 np hW=>by
  have S1:a2f H1 (unc [("bit",s.heap.objs.size+1)] H2):=cov.un s2;refine q p _ (fun b o e n=>S1 _ _ (sT b o e n)) ⟨t1.same S1,(hT.2.1.other sx (A1e hne.1) hps1).same S1,(hT.2.2.1.other sx (A1e hne.2.1) hps1).same S1,(hT.2.2.2.1.other sx (A1e hne.2.2.2.1) hps1).same S1,hT.2.2.2.2⟩ ?_ (hW.unc fun pp hp=>?_)
  ·cases e:H p with
   | none=>rfl
   | some o=>
    by_cases z:p=a0g
    ·obtain⟨ps2,e2,_⟩:=t1;rw[z,cov.same _ _ e2] at np;cases np
    ·rw[cov.same _ _ (sx _ _ z e)] at np;cases np
  ·obtain⟨_,o,e,_⟩:=cov.at_ pp.1 pp.2 hp;exact⟨o,s2 _ _ e⟩
 obtain⟨_,o,hGc,hv⟩:=cov.at_ _ _ (.head _);obtain⟨u,hd,tk,rfl⟩:=hv 2 (.int ((2^i:Nat):Int)) rfl rfl;have nd2:=b9w (inv_inj (g:=fun b=>b^^^2^i) fun b=>xor_two b (2^i)) nd;refine⟨a,f1,ws,fun b=>b^^^2^i,rfl,(hA.to sT).stay cov.same,nd2,by omega,.over (hL.same cov.same) ⟨o,tk,hGc,hd⟩ hi,fun p H2 s2 np hW=>⟨cov.keeps s2,fin p H2 s2 np ?_⟩⟩;rw[b5d (f:=fun e=>(e.1^^^2^i,e.2)) (fun e=>rfl) nd2];exact hW
theorem ok_times_i (F:Fun K "times_i" "times_i" c7w f fd):a2k P w K mg base CX0 1 f fd ["pair","often"] (d2j K):=by
 refine F.ok d2g (by fail"ln") ?_;fail"fi";obtain⟨a,o,p,rfl,ha,q⟩:=h
 refine⟨_,(a0d (a1k 2 d2g.nd (a0t a4n (pv 1) a0k))
   (a0d (a3t (a1b a8r (pv 2) a0k (a1j _)) (a0m (a0x (a2h (a0a (pe_un d2u (a0v a0s (pv 0) a0k)) (a0a (a0v a0s (pv 0) a0k) a0j))))) a1q)
   (a0d (a3t (a1b a8r (pv 2) a0k (a1j _)) (a0m (a0x (a2h (a0a (pe_un d2u (a0v a0s (pv 0) a0k)) (a0a (pe_un d2u (a0v a0s (pv 0) a0k)) a0j))))) a1q)
   (a0d (a3t (a1b a8r (pv 2) a0k (a1j _)) (a0m (a0x (a2h (a0a (a0v a0s (pv 0) a0k) (a0a (pe_un d2u (a0v a0s (pv 0) a0k)) a0j))))) a1q)
   (a0m (a0x (pv 0))))))),?_⟩
 fail"st";have em:((o:Nat):Int)%4=((o%4:Nat):Int):=by omega
 fail"go";have ht:∀k:Nat,o%4=k%4->a2q o p=a2q k p:=fun k e=>a2m e p;refine b4m (fun c=>?_) (fun c=>?_)
 ·fail"go";rename_i t kt;exact q t _ (a0c kt _) (by rw[ht 1 (by omega)];exact SqT.of a0b)
 ·fail"go";refine b4m (fun c=>?_) (fun c=>?_)
  ·fail"go";rename_i t kt;exact q t _ (a0c kt _) (by rw[ht 2 (by omega)];exact SqT.of a0b)
  ·fail"go";refine b4m (fun c=>?_) (fun c=>?_)
   ·fail"go";rename_i t kt;exact q t _ (a0c kt _) (by rw[ht 3 (by omega)];exact SqT.of a0b)
   ·fail"go";exact q a H (a2f.refl _) (by rw[ht 0 (by omega)];exact ha)
include a1f a1d a5s in theorem b6x (F:Fun K "turned_where_down" "turned_where_down" a5y f fd):a2k P w K mg base CX0 2 f fd ["whole","k","often"] (a9b K):=by
 refine F.ok a3u (by fail"ln") ?_;fail"fi";obtain⟨a,k,often,ws,rfl,⟨kvs,ha,hWR⟩,nd,hl,hk,ho,q⟩:=h
 refine⟨_,(a0d (a1k 3 a3u.nd b6c)
   (a0d (b8d (b0e A1y rfl (b3e (pv 0)) (b5f rfl (a2e (a2a (i:=4) a3u.nd rfl (Or.inl rfl)) (a2e (a2a (i:=5) a3u.nd rfl (Or.inl rfl)) b0v))) (a0m (c1g (c7b hr) (pv 3) (pv 4) (a0y a5s hr a0u (a0a (pv 5) (a0a (a0t op_mul (pv 2) (a0y a1f hr a0u (a0a (pv 4) (a0a (pv 1) a0j)))) a0j))) rfl))))
   (a0m (a0x (a0y a1d hr a0u (a0a (pv 3) a0j)))))),?_⟩
 fail"st";fail"go";rename_i p hp;have hpa:p≠a:=A1e (a0p ha hp);refine a4v (fun P h=>⟨_,rfl,h⟩) (a0c hp _ _ _ ha) (fun o i σ H'=>∃(u0 u1:Option V) (kvs':List (Key×V)),σ=[some (.ref a),some (.int k),some (.int often),some (.ref p),u0,u1]/\H' a=some (.frz o (.dK kvs))/\H' p=some (.dK kvs')/\WR K H' ((ws.take i).map fun e=>(e.1,a2q (often*(e.1.testBit k).toNat) e.2)) kvs'/\But a H H') ?_ ?_ ?_ ?_
 ·intro o;refine⟨none,none,[],rfl,a0b,by rw[a0q hpa];exact a0b,.nil,fun c o' hc e=>?_⟩;rw[a0q hc];exact a0c hp _ _ _ e
 ·rintro o i σ H' ⟨u0,u1,kvs',_,h1,_⟩;exact h1
 ·rintro o i kk v σ H' x hget ⟨u0,u1,kvs',rfl,h1,h2,h3,h5⟩ hx;obtain⟨b,pp,a',e1,rfl,rfl,sq⟩:=hWR.get hget;have hil:i<ws.length:=(List.getElem?_eq_some_iff.mp e1).1;have sq':SqT K (upd H' x (.tup [kV (.inl ((b:Nat):Int)),.ref a'])) a' [.int pp.1,.int pp.2]:=(a0c hx _).tup (h5.tup ha _ _ sq);have hp2:=a0c hx (.tup [kV (.inl ((b:Nat):Int)),.ref a']) _ _ h2;have ha2:=a0c hx (.tup [kV (.inl ((b:Nat):Int)),.ref a']) _ _ h1;have hB2:But a H (upd H' x (.tup [kV (.inl ((b:Nat):Int)),.ref a'])):=fun c o' hc e=>a0c hx _ _ _ (h5 _ _ hc e);have h3':=h3.stay (K:=K) (H':=upd H' x (.tup [kV (.inl ((b:Nat):Int)),.ref a'])) (fun y ys s=>(a0c hx _).tup s);have ht0:SqT K (upd H' x (.tup [kV (.inl ((b:Nat):Int)),.ref a'])) x [.int ((b:Nat):Int),.ref a']:=SqT.of a0b;generalize upd H' x (.tup [kV (.inl ((b:Nat):Int)),.ref a'])=G at sq' hp2 ha2 hB2 h3' ht0 ⊢;fail"go";refine⟨b,k,rfl,?_⟩;refine st_i (.inl ⟨by omega,by omega⟩) ?_;have eb:(often:Int)*bI (b.testBit k)=((often*(b.testBit k).toNat:Nat):Int):=by cases b.testBit k<;>simp[bI]
  fail"go";rw[eb];refine⟨a',often*(b.testBit k).toNat,pp,rfl,sq',fun t G2 hS2 ht2=>?_⟩;have hpG:=hS2 _ _ hp2;have h3G:=h3'.stay (K:=K) (H':=G2) fun y ys s=>hS2.tup s;have hB:But p G2 (upd G2 p (.dK (c5r kvs' (.inl ((b:Nat):Int)) (.ref t)))):=But.upd;have hlen:=h3'.len;rw[A0c,A0u] at hlen;fail"go";refine⟨p,_,rfl,c8t hpG (by omega),_,_,_,rfl,hB _ _ (A1e hpa) (hS2 _ _ ha2),a0b,?_,fun c o' hc e=>hB _ _ (a0p e hp) (hS2 _ _ (hB2 _ _ hc e))⟩;rw[d4b (f:=fun e=>(e.1,a2q (often*(e.1.testBit k).toNat) e.2)) nd e1];exact(h3G.stay (fun y ys s=>hB.tup hpG y ys s)).put (hB.tup hpG _ _ ht2)
 ·rintro o σ H' ⟨u0,u1,kvs',rfl,h1,h2,h3,h5⟩;rw[hWR.len,A1h] at h3
  have SS:a2f H (upd H' a (.dK kvs)):=fun c o' e=>by
   by_cases hc:c=a
   ·subst hc;rw[ha] at e;rw[a0b];exact e
   ·rw[a0q hc];exact h5 _ _ hc e
  have hW:a8a K (upd H' a (.dK kvs)) p (ws.map fun e=>(e.1,a2q (often*(e.1.testBit k).toNat) e.2)):=⟨kvs',by rw[a0q hpa];exact h2,h3.stay (b8h h1)⟩;fail"go";refine⟨p,_,rfl,hW,by rw[A3q];exact nd,by rw[A0c];exact hl,fun p2 H2 s2 np2 hW2=>?_⟩;fail"go";exact q p2 H2 (SS.trans s2) (b6r SS np2) hW2
include T_D a2b in theorem b8e (F:Fun K "on_whole" "Quarter.on_whole" a6v f fd):a2k P w K mg base CX0 3 f fd ["self","whole"] (b7y K a7c a0g a0e a0h a0n):=by
 refine F.ok b8c (by fail"ln") ?_;fail"fi";obtain⟨x,a,⟨k,w'⟩,ws,rfl,hk,⟨dx,t,ha,ht,hlw⟩,hnd,hw,hA,nd,hl,hT,q⟩:=h;dsimp only at hk ha ht hlw hw hnd;subst hk;obtain⟨i,rfl⟩:=a9r hlw;have hi:i<=1000:=hw i (by simp);have ht':SqT K H t [.int (i:Nat)]:=SqT.of ht;refine⟨_,(a0m (a0x (a0y a2b hr a0u (a0a (pv 1) (a0a (a0v a0s (a2g (pv 0) rfl) a0k) (a0a a0k a0j)))))),?_⟩;fail"st";fail"go";refine a1m ha (T_D.cl _) (T_D.n_at _) (a5a _ _) ?_;fail"go";refine⟨a,i,1,ws,rfl,hA,nd,by omega,hi,by decide,fun p H' s1 np hW=>?_⟩;fail"go";refine q p H' (fun b o e _=>s1 _ _ e) (hT.to s1) np ?_;rw[b5d (f:=fun e=>(e.1,a2q (1*(e.1.testBit i).toNat) e.2)) (fun e=>by show [(e.1,a2q (e.1.testBit i).toNat e.2)]=_;rw[A8t]) nd];exact hW
include T_D a2b in theorem c3u (F:Fun K "on_whole" "Back.on_whole" a9t f fd):a2k P w K mg base CX0 3 f fd ["self","whole"] (c4c K a7c a0g a0e a0h a0n):=by
 refine F.ok c3w (by fail"ln") ?_;fail"fi";obtain⟨x,a,⟨k,w'⟩,ws,rfl,hk,⟨dx,t,ha,ht,hlw⟩,hnd,hw,hA,nd,hl,hT,q⟩:=h;dsimp only at hk ha ht hlw hw hnd;subst hk;obtain⟨i,rfl⟩:=a9r hlw;have hi:i<=1000:=hw i (by simp);have ht':SqT K H t [.int (i:Nat)]:=SqT.of ht;refine⟨_,(a0m (a0x (a0y a2b hr a0u (a0a (pv 1) (a0a (a0v a0s (a2g (pv 0) rfl) a0k) (a0a a0k a0j)))))),?_⟩;fail"st";fail"go";refine a1m ha (T_D.cl _) (T_D.n_at _) (a5a _ _) ?_;fail"go";refine⟨a,i,3,ws,rfl,hA,nd,by omega,hi,by decide,fun p H' s1 np hW=>?_⟩;fail"go";refine q p H' (fun b o e _=>s1 _ _ e) (hT.to s1) np ?_;rw[b5d (f:=fun e=>(e.1,a2q (3*(e.1.testBit i).toNat) e.2)) (fun e=>rfl) nd];exact hW
theorem ok_add_at (F:Fun K "add_at" "add_at" d5c f fd):a2k P w K mg base CX0 1 f fd ["whole","b","pair"] (c8v K):=by
 refine F.ok sc_add_at (by fail"ln") ?_;fail"fi";obtain⟨f,a,b,rfl,p,ws,kvs,ha,hf,hw,hl,q⟩:=h
 refine⟨_,(a0d (a1k 3 sc_add_at.nd (pe_dget2 (c7b hr) (pv 0) (pv 1) (a2h (a0a a0k (a0a a0k a0j))) ⟨rfl,rfl,rfl,rfl⟩))
   (a0m (c1g (c7b hr) (pv 0) (pv 1) (a2h (a0a (a0t a3v (a0v a0s (pv 3) a0k) (a0v a0s (pv 2) a0k)) (a0a (a0t a3v (a0v a0s (pv 3) a0k) (a0v a0s (pv 2) a0k)) a0j))) rfl))),?_⟩
 fail"st";fail"go";refine⟨f,rfl,.inl ⟨kvs,.inl hf⟩,?_⟩;fail"go";rename_i p1 hp1;have hf1:upd H p1 (.tup [.int 0,.int 0]) f=some (.dK kvs):=a0c hp1 _ _ _ hf;have ha1:=(a0c hp1 (.tup [.int 0,.int 0])).tup ha;refine⟨_,dget_z (.inl hf1),?_⟩
 have fin:∀p2 (x:Int×Int),(upd H p1 (.tup [.int 0,.int 0])) p2=none->x=(wat ws b).getD (0,0)->
   Q .non (upd (upd (upd H p1 (.tup [.int 0,.int 0])) p2 (.tup [.int (x.1+p.1),.int (x.2+p.2)])) f (.dK (c5r kvs (.inl ((b:Nat):Int)) (.ref p2)))):=fun p2 x hp2 hx=>by
  have hS2:=(a0c hp1 (.tup [.int 0,.int 0])).trans (a0c hp2 (.tup [.int (x.1+p.1),.int (x.2+p.2)]));have hf2:=hS2 _ _ hf
  have hB:But f (upd (upd H p1 (.tup [.int 0,.int 0])) p2 (.tup [.int (x.1+p.1),.int (x.2+p.2)])) (upd (upd (upd H p1 (.tup [.int 0,.int 0])) p2 (.tup [.int (x.1+p.1),.int (x.2+p.2)])) f (.dK (c5r kvs (.inl ((b:Nat):Int)) (.ref p2)))):=fun c o hc e=>by
   rw[a0q hc];exact e
  refine q _ _ a0b ?_ (But.of hS2 hB);have hw2:=hw.stay (K:=K) (H':=upd (upd H p1 (.tup [.int 0,.int 0])) p2 (.tup [.int (x.1+p.1),.int (x.2+p.2)])) fun a xs s=>hS2.tup s;have hw3:=hw2.put (b:=b) (p:=(x.1+p.1,x.2+p.2)) (a:=p2) (SqT.of a0b);unfold wadd;rw[<- hx];exact hw3.stay (hB.tup hf2)
 rcases hw.val b with ⟨e1,e2⟩|⟨a',p',e1,e2,e3⟩
 ·rw[show atZ kvs ((b:Nat):Int)=none from e1];have h01:SqT K (upd H p1 (.tup [.int 0,.int 0])) p1 [.int 0,.int 0]:=SqT.of a0b;rw[show Option.getD (none:Option V) (V.ref p1)=V.ref p1 from rfl];fail"go";rename_i p2 hp2;refine⟨f,_,rfl,c8t (a0c hp2 _ _ _ hf1) (by rw[hw.len];omega),?_⟩;fail"go";have z:=fin p2 (0,0) hp2 (by rw[e2];rfl)
  simpa using z
 ·rw[show atZ kvs ((b:Nat):Int)=some (.ref a') from e1];have h01:=(a0c hp1 (.tup [.int 0,.int 0])).tup e2;rw[show Option.getD (some (V.ref a')) (V.ref p1)=V.ref a' from rfl];fail"go";rename_i p2 hp2;refine⟨f,_,rfl,c8t (a0c hp2 _ _ _ hf1) (by rw[hw.len];omega),?_⟩;fail"go";exact fin p2 p' hp2 (by rw[e3];rfl)
include a1d T_D a5s b1c in theorem c3t (F:Fun K "on_whole" "Both.on_whole" b0w f fd):a2k P w K mg base CX0 2 f fd ["self","whole"] (c4h K a7c a0g a0e a0h a0n):=by
 refine F.ok a3h (by fail"ln") ?_;fail"fi";obtain⟨xs_,a,⟨k,w'⟩,ws,rfl,hk,⟨dx,t,hx0,ht,hlw⟩,hnd,hw,⟨kvs,hA0,hWR⟩,nd,hl,hT,q⟩:=h;dsimp only at hk hx0 ht hlw hw hnd;subst hk;obtain⟨i0,rfl⟩:=a9r hlw;have hi:i0<=1000:=hw i0 (by simp);have ht':SqT K H t [.int (i0:Nat)]:=SqT.of ht;have ha:=hA0
 refine⟨_,(a0d (a1k 2 a3h.nd (a0t a8g a0k (a0v a0s (a2g (pv 0) rfl) a0k)))
   (a0d (a1k 3 a3h.nd b6c)
   (a0d (b8d (b0e A1y rfl (b3e (pv 1)) (b5f rfl (a2e (a2a (i:=4) a3h.nd rfl (Or.inl rfl)) (a2e (a2a (i:=5) a3h.nd rfl (Or.inl rfl)) b0v))) (a0d (a1k 6 a3h.nd (a0t op_or (pv 4) (pv 2)))
   (a0d (a2y (a0y b1c hr a0u (a0a (pv 3) (a0a (a0t a3s (pv 6) (pv 2)) (a0a (pv 5) a0j)))))
   (a0m (a2y (a0y b1c hr a0u (a0a (pv 3) (a0a (pv 6) (a0a (c5p (a1b a8r (pv 4) (pv 6) (a1j _)) (a0y a5s hr a0u (a0a (pv 5) (a0a a0k a0j))) (pv 5)) a0j))))))))))
   (a0m (a0x (a0y a1d hr a0u (a0a (pv 3) a0j))))))),?_⟩
 fail"st";fail"go";refine a1m hx0 (T_D.cl _) (T_D.n_at _) (a5a _ _) ?_;fail"go";rename_i p hp;have hpa:p≠a:=A1e (a0p ha hp);refine a4v (fun P h=>⟨_,rfl,h⟩) (a0c hp _ _ _ ha) (fun o i σ H'=>∃(u0 u1 u2:Option V) (kvs':List (Key×V)),σ=[some (.ref xs_),some (.ref a),some (.int ((2^i0:Nat):Int)),some (.ref p),u0,u1,u2]/\H' a=some (.frz o (.dK kvs))/\H' p=some (.dK kvs')/\WR K H' (a6k ⟨.both,[i0]⟩ (ws.take i)) kvs'/\But a H H') ?_ ?_ ?_ ?_
 ·intro o;refine⟨none,none,none,[],rfl,a0b,by rw[a0q hpa];exact a0b,.nil,fun c o' hc e=>?_⟩;rw[a0q hc];exact a0c hp _ _ _ e
 ·rintro o i σ H' ⟨u0,u1,u2,kvs',_,h1,_⟩;exact h1
 ·rintro o i k v σ H' x hget ⟨u0,u1,u2,kvs',rfl,h1,h2,h3,h5⟩ hx;obtain⟨b,pp,a',e1,rfl,rfl,sq⟩:=hWR.get hget;have hil:i<ws.length:=(List.getElem?_eq_some_iff.mp e1).1;have sq':SqT K (upd H' x (.tup [kV (.inl ((b:Nat):Int)),.ref a'])) a' [.int pp.1,.int pp.2]:=(a0c hx _).tup (h5.tup ha _ _ sq);have hp2:=a0c hx (.tup [kV (.inl ((b:Nat):Int)),.ref a']) _ _ h2;have ha2:=a0c hx (.tup [kV (.inl ((b:Nat):Int)),.ref a']) _ _ h1;have hB2:But a H (upd H' x (.tup [kV (.inl ((b:Nat):Int)),.ref a'])):=fun c o' hc e=>a0c hx _ _ _ (h5 _ _ hc e);have h3':=h3.stay (K:=K) (H':=upd H' x (.tup [kV (.inl ((b:Nat):Int)),.ref a'])) (fun y ys s=>(a0c hx _).tup s);have ht0:SqT K (upd H' x (.tup [kV (.inl ((b:Nat):Int)),.ref a'])) x [.int ((b:Nat):Int),.ref a']:=SqT.of a0b;generalize upd H' x (.tup [kV (.inl ((b:Nat):Int)),.ref a'])=G at sq' hp2 ha2 hB2 h3' ht0 ⊢;have hln:=deedF_len ⟨.both,[i0]⟩ (ws.take i);rw[A0u] at hln;have hst:=deedF_step (d:=⟨.both,[i0]⟩) e1;fail"go";refine⟨p,a',clr b i0,by rw[<- down_clr];rfl,pp,_,kvs',sq',hp2,h3',by omega,fun H3 kvs3 g1 g2 g3=>?_⟩;have sq3:=g3.tup hp2 _ _ sq';have hl3:=wput_len (a6k ⟨.both,[i0]⟩ (ws.take i)) (clr b i0) (((wat (a6k ⟨.both,[i0]⟩ (ws.take i)) (clr b i0)).getD (0,0)).1+pp.1,((wat (a6k ⟨.both,[i0]⟩ (ws.take i)) (clr b i0)).getD (0,0)).2+pp.2);fail"go"
  have fin:∀(v:Addr) (pv:Int×Int) (G2:Hp),a2f H3 G2->SqT K G2 v [.int pv.1,.int pv.2]->pv=a2q (2*(b.testBit i0).toNat) pp->c8v K [.ref p,.int ((b|||2^i0:Nat):Int),.ref v] G2 (fun _ H1=>∃(u0' u1' u2':Option V) (kvs':List (Key×V)),[some (V.ref xs_),some (.ref a),some (.int ((2^i0:Nat):Int)),some (.ref p),some (.int (b:Int)),some (.ref a'),some (.int ((b|||2^i0:Nat):Int))]=[some (.ref xs_),some (.ref a),some (.int ((2^i0:Nat):Int)),some (.ref p),u0',u1',u2']/\H1 a=some (.frz o (.dK kvs))/\H1 p=some (.dK kvs')/\WR K H1 (a6k ⟨.both,[i0]⟩ (ws.take (i+1))) kvs'/\But a H H1) E0:=fun v pv G2 hS2 ht2 hpv=>by
   refine⟨p,v,clr b i0+2^i0,by rw[c6s],pv,_,kvs3,ht2,hS2 _ _ g1,g2.stay (fun y ys s=>hS2.tup s),A0y hl3 (by omega),fun H4 kvs4 g4 g5 g6=>?_⟩;refine⟨_,_,_,kvs4,rfl,g6 _ _ (A1e hpa) (hS2 _ _ (g3 _ _ (A1e hpa) ha2)),g4,?_,fun c o' hc' e=>g6 _ _ (a0p e hp) (hS2 _ _ (g3 _ _ (a0p e hp) (hB2 _ _ hc' e)))⟩;rw[hst];show WR K H4 (wadd (wadd (a6k ⟨.both,[i0]⟩ (ws.take i)) (clr b i0) pp) (clr b i0+2^i0) (a2q (2*(b.testBit i0).toNat) pp)) kvs4;rw[<- hpv];exact g5
  refine b4m (fun c=>?_) (fun c=>?_)
  ·have hc:=(down_eq b i0).1 (Int.ofNat_inj.mp c);fail"go";refine⟨a',2,pp,rfl,sq3,fun t2 G2 hS2 ht2=>?_⟩;fail"go";exact fin t2 (a2q 2 pp) G2 hS2 ht2 (by rw[hc];rfl)
  ·have hc:b.testBit i0=false:=eq_false_of_ne_true fun z=>c (by rw[<- (down_eq b i0).2 z]);fail"go";exact fin a' pp H3 (a2f.refl _) sq3 (by rw[hc];rfl)
 ·rintro o σ H' ⟨u0,u1,u2,kvs',rfl,h1,h2,h3,h5⟩;rw[hWR.len,A1h] at h3
  have SS:a2f H (upd H' a (.dK kvs)):=fun c o' e=>by
   by_cases hc:c=a
   ·subst hc;rw[ha] at e;rw[a0b];exact e
   ·rw[a0q hc];exact h5 _ _ hc e
  have hW:a8a K (upd H' a (.dK kvs)) p (a6k ⟨.both,[i0]⟩ ws):=⟨kvs',by rw[a0q hpa];exact h2,h3.stay (b8h h1)⟩;fail"go";refine⟨p,_,rfl,hW,d4z _ _,A0y (deedF_len _ _) (by omega),fun p2 H2 s2 np2 hW2=>?_⟩;fail"go";have s3:=SS.trans s2;exact q p2 H2 (fun b o e _=>s3 _ _ e) (hT.to s3) (b6r SS np2) hW2
include T_D b2f bm a5c in theorem c1d (F:FunC K "on_whole" "Where.on_whole" a2p f fd a1e):a2k P w K mg base CX0 5 f fd ["self","whole"] (c1f K a7c a0g a0e a0h a0n):=by
 refine F.ok a7h (by fail"ln") (fun A outer s H vs Q E hr h=>?_);obtain⟨x,a,⟨k,w'⟩,ws,rfl,hk,⟨dx,t,ha,ht,hlw⟩,hnd,hw,hA,nd,hl,hT,q⟩:=h;dsimp only at hk ha ht hlw hw hnd;subst hk;obtain⟨i,j,rfl⟩:=b5c hlw;have hi:i<=1000:=hw i (by simp);have hj:j<=1000:=hw j (by simp);have hij:i≠j:=fun z=>by subst z;simp at hnd
 have ht':SqT K H t [.int (i:Nat),.int (j:Nat)]:=SqT.of ht
 refine⟨_,(a0d (b2w (i:=2) a7h.nd rfl (Or.inr rfl) (a0v a0s (a2g (pv 0) rfl) a0k))
   (a0d (b2w (i:=3) a7h.nd rfl (Or.inr rfl) (a0v a0s (a2g (pv 0) rfl) a0k))
   (a0m (a0x (pe_fnL b2f hr a5c bm (pv 1)))))),?_⟩
 fail"st";fail"go";refine a1m ha (T_D.cl _) (T_D.n_at _) (a5a _ _) ?_;fail"go";refine a1m ha (T_D.cl _) (T_D.n_at _) (a5a _ _) ?_;fail"go";refine d7d ?_;fail"go";refine st_lam hT.2.1 fun f1 H1 sx t1 nf hL=>?_;fail"go";intro G cov;have hne:=nd4 hT.2.2.2.2;obtain⟨ps1,hps1,_⟩:=id hT.2.1;have sT:=sx.t hps1
 have fin:∀p H2,a2f G H2->G p=none->a8a K H2 p (wnz (a6k ⟨.wher,[i,j]⟩ ws))->Q (.ref p) (unc [("k",s.heap.objs.size+1+1),("j",s.heap.objs.size+1)] H2):=fun p H2 s2 np hW=>by
  have S1:a2f H1 (unc [("k",s.heap.objs.size+1+1),("j",s.heap.objs.size+1)] H2):=cov.un s2;refine q p _ (fun b o e n=>S1 _ _ (sT b o e n)) ⟨(hT.1.other sx hne.1 hps1).same S1,t1.same S1,(hT.2.2.1.other sx (A1e hne.2.2.1) hps1).same S1,(hT.2.2.2.1.other sx (A1e hne.2.2.2.2.1) hps1).same S1,hT.2.2.2.2⟩ ?_ (hW.unc fun pp hp=>?_)
  ·cases e:H p with
   | none=>rfl
   | some o=>
    by_cases z:p=a0e
    ·obtain⟨ps2,e2,_⟩:=t1;rw[z,cov.same _ _ e2] at np;cases np
    ·rw[cov.same _ _ (sx _ _ z e)] at np;cases np
  ·obtain⟨_,o,e,_⟩:=cov.at_ pp.1 pp.2 hp;exact⟨o,s2 _ _ e⟩
 obtain⟨_,o2,hGd,hv2⟩:=cov.at_ _ _ (.head _);obtain⟨_,o,hGc,hv⟩:=cov.at_ _ _ (.tail _ (.head _));obtain⟨u,hd,tk,rfl⟩:=hv 2 (.int (i:Int)) rfl rfl;obtain⟨u2,hd2,tk2,rfl⟩:=hv2 3 (.int (j:Int)) rfl rfl;have nd2:=b9w (inv_inj (g:=fun b=>b^^^(b.testBit i).toNat*2^j) (wher_two hij)) nd;refine⟨a,f1,ws,fun b=>b^^^(b.testBit i).toNat*2^j,rfl,(hA.to sT).stay cov.same,nd2,by omega,.wher (hL.same cov.same) (by exact A1j (A3t _)) ⟨o,tk,hGc,hd⟩ ⟨o2,tk2,hGd,hd2⟩ hi hj,fun p H2 s2 np hW=>⟨cov.keeps s2,fin p H2 s2 np ?_⟩⟩;rw[b5d (f:=fun e=>(e.1^^^(e.1.testBit i).toNat*2^j,e.2)) (fun e=>rfl) nd2];exact hW
include T_D b2f bm a5v in theorem c4m (F:FunC K "on_whole" "Swap.on_whole" a3a f fd a1h):a2k P w K mg base CX0 5 f fd ["self","whole"] (c4d K a7c a0g a0e a0h a0n):=by
 refine F.ok a8p (by fail"ln") (fun A outer s H vs Q E hr h=>?_);obtain⟨x,a,⟨k,w'⟩,ws,rfl,hk,⟨dx,t,ha,ht,hlw⟩,hnd,hw,hA,nd,hl,hT,q⟩:=h;dsimp only at hk ha ht hlw hw hnd;subst hk;obtain⟨i,j,rfl⟩:=b5c hlw;have hi:i<=1000:=hw i (by simp);have hj:j<=1000:=hw j (by simp);have hij:i≠j:=fun z=>by subst z;simp at hnd
 have ht':SqT K H t [.int (i:Nat),.int (j:Nat)]:=SqT.of ht
 refine⟨_,(a0d (b2w (i:=2) a8p.nd rfl (Or.inr rfl) (a0v a0s (a2g (pv 0) rfl) a0k))
   (a0d (b2w (i:=3) a8p.nd rfl (Or.inr rfl) (a0v a0s (a2g (pv 0) rfl) a0k))
   (a0m (a0x (pe_fnL b2f hr a5v bm (pv 1)))))),?_⟩
 fail"st";fail"go";refine a1m ha (T_D.cl _) (T_D.n_at _) (a5a _ _) ?_;fail"go";refine a1m ha (T_D.cl _) (T_D.n_at _) (a5a _ _) ?_;fail"go";refine d7d ?_;fail"go";refine st_lam hT.2.2.1 fun f1 H1 sx t1 nf hL=>?_;fail"go";intro G cov;have hne:=nd4 hT.2.2.2.2;obtain⟨ps1,hps1,_⟩:=id hT.2.2.1;have sT:=sx.t hps1
 have fin:∀p H2,a2f G H2->G p=none->a8a K H2 p (wnz (a6k ⟨.swap,[i,j]⟩ ws))->Q (.ref p) (unc [("k",s.heap.objs.size+1+1),("j",s.heap.objs.size+1)] H2):=fun p H2 s2 np hW=>by
  have S1:a2f H1 (unc [("k",s.heap.objs.size+1+1),("j",s.heap.objs.size+1)] H2):=cov.un s2;refine q p _ (fun b o e n=>S1 _ _ (sT b o e n)) ⟨(hT.1.other sx hne.2.1 hps1).same S1,(hT.2.1.other sx hne.2.2.1 hps1).same S1,t1.same S1,(hT.2.2.2.1.other sx (A1e hne.2.2.2.2.2) hps1).same S1,hT.2.2.2.2⟩ ?_ (hW.unc fun pp hp=>?_)
  ·cases e:H p with
   | none=>rfl
   | some o=>
    by_cases z:p=a0h
    ·obtain⟨ps2,e2,_⟩:=t1;rw[z,cov.same _ _ e2] at np;cases np
    ·rw[cov.same _ _ (sx _ _ z e)] at np;cases np
  ·obtain⟨_,o,e,_⟩:=cov.at_ pp.1 pp.2 hp;exact⟨o,s2 _ _ e⟩
 obtain⟨_,o2,hGd,hv2⟩:=cov.at_ _ _ (.head _);obtain⟨_,o,hGc,hv⟩:=cov.at_ _ _ (.tail _ (.head _));obtain⟨u,hd,tk,rfl⟩:=hv 2 (.int (i:Int)) rfl rfl;obtain⟨u2,hd2,tk2,rfl⟩:=hv2 3 (.int (j:Int)) rfl rfl;have nd2:=b9w (inv_inj (g:=fun b=>ex b i j) (ex_two hij)) nd;refine⟨a,f1,ws,fun b=>ex b i j,rfl,(hA.to sT).stay cov.same,nd2,by omega,.swap (hL.same cov.same) (by exact A1j (A3t _)) ⟨o,tk,hGc,hd⟩ ⟨o2,tk2,hGd,hd2⟩ hi hj,fun p H2 s2 np hW=>⟨cov.keeps s2,fin p H2 s2 np ?_⟩⟩;rw[b5d (f:=fun e=>(ex e.1 i j,e.2)) (fun e=>by show [(clr (clr e.1 i) j+(e.1.testBit j).toNat*2^i+(e.1.testBit i).toNat*2^j,e.2)]=_;rw[c5w hij]) nd2];exact hW
include T_M b1y in theorem c7d (F:Fun K "follow" "Exact.follow" b2a f fd):a2k P w K mg base CX0 6 f fd ["self","deed"] (b4q K a7c a5b a0g a0e a0h a0n):=by
 refine F.ok c6u (by fail"ln") ?_;fail"fi";obtain⟨x,y,a,n,d,ws,rfl,⟨dx,hx⟩,hD,hnd,hw,hA,nd,hl,hT,q⟩:=h;refine⟨_,(a0m (a9a (pv 0) (c2q b1y hr a0u (pv 1) (a0a (a2g (pv 0) rfl) a0j)) rfl)),?_⟩;obtain⟨dx1,tt,hd1,hd2,hd4⟩:=id hD;fail"st";fail"go";refine a4q hd1 (flds_no _ _ (by decide +kernel) (by decide +kernel) (by decide +kernel)) ?_;fail"go";refine a1m hx (T_M.cl .ex) (T_M.n_amounts .ex) rfl ?_;fail"go";refine⟨y,a,d,ws,rfl,rfl,hD,hnd,hw,hA,nd,hl,hT,fun p H1 hS hT1 hp hW=>?_⟩;have hx1:=hS _ _ hx (by intro ps z;cases z);fail"go";refine a5n hx1 (T_M.cl .ex) (T_M.n_amounts .ex) (by simp) ?_;have hB:But x H1 (upd H1 x (.ins (a5b .ex) dx [("n",.int (n:Int)),("amounts",.ref p)])):=But.upd;obtain⟨kv,k1,k2⟩:=hW;refine q p _ (fun c o hc e nt=>hB _ _ hc (hS _ _ e nt)) (d0j hT1 hB hx1) hp ⟨dx,a0b⟩ ⟨kv,hB _ _ (fun z=>by rw[z,hx1] at k1;cases k1) k1,k2.stay fun y ys s=>c5s hB hx1 s⟩
include a1f T_D a7e a7d a1p in theorem d1k (F:Fun K "on_row" "Over.on_row" b3j f fd):a2k P w K mg base CX0 2 f fd ["self","row"] (d0y K a7c):=by
 refine F.ok d1g (by fail"ln") ?_;fail"fi";obtain⟨a,b,⟨k,w⟩,r,rfl,hk,⟨dx,t,ha,ht,hl⟩,hw,hb,q⟩:=h;dsimp only at hk ha ht hl hw;subst hk;obtain⟨i,rfl⟩:=a9r hl;have hi:i<=1000:=hw i (by simp);have ht':SqT K H t [.int (i:Nat)]:=SqT.of ht;refine⟨_,(a0m (a0x (a2h (a0a (a0t a3s (a0v a0s (pv 1) (a1z a1p)) (a0y a1f hr a0u (a0a (a0v a0s (pv 1) (a1z a7d)) (a0a (a0v a0s (a2g (pv 0) rfl) a0k) a0j)))) (a0a (a0v a0s (pv 1) (a1z a7e)) (a0a (a0v a0s (pv 1) (a1z a7d)) a0j)))))),?_⟩;fail"st";unfold Row.V at hb;fail"go";refine a1m ha (T_D.cl _) (T_D.n_at _) (a5a _ _) ?_;fail"go";refine⟨r.z,i,rfl,?_⟩;fail"go";rename_i p hp;exact q p _ (a0c hp _) a0b
include a1f T_D a7e a7d a1p in theorem c1c (F:Fun K "on_row" "Quarter.on_row" a8s f fd):a2k P w K mg base CX0 2 f fd ["self","row"] (c2j K a7c):=by
 refine F.ok a5e (by fail"ln") ?_;fail"fi";obtain⟨a,b,⟨k,w⟩,r,rfl,hk,⟨dx,t,ha,ht,hl⟩,hw,hb,q⟩:=h;dsimp only at hk ha ht hl hw;subst hk;obtain⟨i,rfl⟩:=a9r hl;have hi:i<=1000:=hw i (by simp);have ht':SqT K H t [.int (i:Nat)]:=SqT.of ht
 refine⟨_,(a0d (a1k 2 a5e.nd (a0v a0s (a2g (pv 0) rfl) a0k))
   (a0d (a1k 3 a5e.nd (a0y a1f hr a0u (a0a (a0v a0s (pv 1) (a1z a7e)) (a0a (pv 2) a0j))))
   (a0d (a1k 4 a5e.nd (a0y a1f hr a0u (a0a (a0v a0s (pv 1) (a1z a7d)) (a0a (pv 2) a0j))))
   (a0m (a0x (a2h (a0a (a0t a3s (a0v a0s (pv 1) (a1z a1p)) (a0t a5h (pv 3) (pv 4))) (a0a (a0v a0s (pv 1) (a1z a7e)) (a0a (a0t a3s (a0v a0s (pv 1) (a1z a7d)) (a0t a8g (pv 3) (pv 2))) a0j))))))))),?_⟩
 fail"st";unfold Row.V at hb;fail"go";refine a1m ha (T_D.cl _) (T_D.n_at _) (a5a _ _) ?_;fail"go";refine⟨r.x,i,rfl,?_⟩;fail"go";refine⟨r.z,i,rfl,?_⟩;fail"go";rename_i p hp;exact q p _ (a0c hp _) a0b
include a1f T_D a7e a7d a1p in theorem d1v (F:Fun K "on_row" "Back.on_row" b3b f fd):a2k P w K mg base CX0 2 f fd ["self","row"] (d1q K a7c):=by
 refine F.ok a7x (by fail"ln") ?_;fail"fi";obtain⟨a,b,⟨k,w⟩,r,rfl,hk,⟨dx,t,ha,ht,hl⟩,hw,hb,q⟩:=h;dsimp only at hk ha ht hl hw;subst hk;obtain⟨i,rfl⟩:=a9r hl;have hi:i<=1000:=hw i (by simp);have ht':SqT K H t [.int (i:Nat)]:=SqT.of ht
 refine⟨_,(a0d (a1k 2 a7x.nd (a0v a0s (a2g (pv 0) rfl) a0k))
   (a0d (a1k 3 a7x.nd (a0y a1f hr a0u (a0a (a0v a0s (pv 1) (a1z a7e)) (a0a (pv 2) a0j))))
   (a0d (a1k 4 a7x.nd (a0y a1f hr a0u (a0a (a0v a0s (pv 1) (a1z a7d)) (a0a (pv 2) a0j))))
   (a0m (a0x (a2h (a0a (a0t a3s (a0v a0s (pv 1) (a1z a1p)) (a0t a5h (pv 3) (a0t b7q a0k (pv 4)))) (a0a (a0v a0s (pv 1) (a1z a7e)) (a0a (a0t a3s (a0v a0s (pv 1) (a1z a7d)) (a0t a8g (pv 3) (pv 2))) a0j))))))))),?_⟩
 fail"st";unfold Row.V at hb;fail"go";refine a1m ha (T_D.cl _) (T_D.n_at _) (a5a _ _) ?_;fail"go";refine⟨r.x,i,rfl,?_⟩;fail"go";refine⟨r.z,i,rfl,?_⟩;fail"go";rename_i p hp;exact q p _ (a0c hp _) a0b
include a1f T_D a7e a7d a1p in theorem d1t (F:Fun K "on_row" "Both.on_row" b3f f fd):a2k P w K mg base CX0 2 f fd ["self","row"] (d2a K a7c):=by
 refine F.ok a5p (by fail"ln") ?_;fail"fi";obtain⟨a,b,⟨k,w⟩,r,rfl,hk,⟨dx,t,ha,ht,hl⟩,hw,hb,q⟩:=h;dsimp only at hk ha ht hl hw;subst hk;obtain⟨i,rfl⟩:=a9r hl;have hi:i<=1000:=hw i (by simp);have ht':SqT K H t [.int (i:Nat)]:=SqT.of ht
 refine⟨_,(a0d (a1k 2 a5p.nd (a0v a0s (a2g (pv 0) rfl) a0k))
   (a0d (a1k 3 a5p.nd (a0y a1f hr a0u (a0a (a0v a0s (pv 1) (a1z a7e)) (a0a (pv 2) a0j))))
   (a0d (a1k 4 a5p.nd (a0y a1f hr a0u (a0a (a0v a0s (pv 1) (a1z a7d)) (a0a (pv 2) a0j))))
   (a0d (a1k 5 a5p.nd (a0t a8g (a0t a3s (pv 3) (pv 4)) (pv 2)))
   (a0m (a0x (a2h (a0a (a0t a3s (a0v a0s (pv 1) (a1z a1p)) (a0t a5h (pv 3) (pv 4))) (a0a (a0t a3s (a0v a0s (pv 1) (a1z a7e)) (pv 5)) (a0a (a0t a3s (a0v a0s (pv 1) (a1z a7d)) (pv 5)) a0j)))))))))),?_⟩
 fail"st";unfold Row.V at hb;fail"go";refine a1m ha (T_D.cl _) (T_D.n_at _) (a5a _ _) ?_;fail"go";refine⟨r.x,i,rfl,?_⟩;fail"go";refine⟨r.z,i,rfl,?_⟩;fail"go";rename_i p hp;exact q p _ (a0c hp _) a0b
include a1f T_D a7e a7d a1p in theorem c8r (F:Fun K "on_row" "Where.on_row" b2g f fd):a2k P w K mg base CX0 2 f fd ["self","row"] (c9s K a7c):=by
 refine F.ok a3w (by fail"ln") ?_;fail"fi";obtain⟨a,b,⟨k,w⟩,r,rfl,hk,⟨dx,t,ha,ht,hl⟩,hw,hb,q⟩:=h;dsimp only at hk ha ht hl hw;subst hk;obtain⟨i,j,rfl⟩:=b5c hl;have hi:i<=1000:=hw i (by simp);have hj:j<=1000:=hw j (by simp);have ht':SqT K H t [.int (i:Nat),.int (j:Nat)]:=SqT.of ht
 refine⟨_,(a0d (a1k 2 a3w.nd (a0v a0s (a2g (pv 0) rfl) a0k))
   (a0d (a1k 3 a3w.nd (a0v a0s (a2g (pv 0) rfl) a0k))
   (a0d (a1k 4 a3w.nd (a0y a1f hr a0u (a0a (a0v a0s (pv 1) (a1z a7e)) (a0a (pv 2) a0j))))
   (a0d (a1k 5 a3w.nd (a0y a1f hr a0u (a0a (a0v a0s (pv 1) (a1z a7d)) (a0a (pv 3) a0j))))
   (a0d (a1k 6 a3w.nd (a0t b7q a0k (a0t a3s (a0y a1f hr a0u (a0a (a0v a0s (pv 1) (a1z a7d)) (a0a (pv 2) a0j))) (a0y a1f hr a0u (a0a (a0v a0s (pv 1) (a1z a7e)) (a0a (pv 3) a0j))))))
   (a0m (a0x (a2h (a0a (a0t a3s (a0v a0s (pv 1) (a1z a1p)) (a0t a5h (a0t a5h (pv 4) (pv 5)) (pv 6))) (a0a (a0t a3s (a0v a0s (pv 1) (a1z a7e)) (a0t a8g (pv 4) (pv 3))) (a0a (a0t a3s (a0v a0s (pv 1) (a1z a7d)) (a0t a8g (pv 5) (pv 2))) a0j))))))))))),?_⟩
 fail"st";unfold Row.V at hb;fail"go";refine a1m ha (T_D.cl _) (T_D.n_at _) (a5a _ _) ?_;fail"go";refine a1m ha (T_D.cl _) (T_D.n_at _) (a5a _ _) ?_;fail"go";refine⟨r.x,i,rfl,?_⟩;fail"go";refine⟨r.z,j,rfl,?_⟩;fail"go";refine⟨r.z,i,rfl,?_⟩;fail"go";refine⟨r.x,j,rfl,?_⟩;fail"go";rename_i p hp;exact q p _ (a0c hp _) a0b
include T_D a7e a7d a1p a3q in theorem d1s (F:Fun K "on_row" "Swap.on_row" b3c f fd):a2k P w K mg base CX0 3 f fd ["self","row"] (d1c K a7c):=by
 refine F.ok b2h (by fail"ln") ?_;fail"fi";obtain⟨a,b,⟨k,w⟩,r,rfl,hk,⟨dx,t,ha,ht,hl⟩,hw,hb,q⟩:=h;dsimp only at hk ha ht hl hw;subst hk;obtain⟨i,j,rfl⟩:=b5c hl;have hi:i<=1000:=hw i (by simp);have hj:j<=1000:=hw j (by simp);have ht':SqT K H t [.int (i:Nat),.int (j:Nat)]:=SqT.of ht
 refine⟨_,(a0d (a1k 2 b2h.nd (a0v a0s (a2g (pv 0) rfl) a0k))
   (a0d (a1k 3 b2h.nd (a0v a0s (a2g (pv 0) rfl) a0k))
   (a0m (a0x (a2h (a0a (a0v a0s (pv 1) (a1z a1p)) (a0a (a0y a3q hr a0u (a0a (a0v a0s (pv 1) (a1z a7e)) (a0a (pv 2) (a0a (pv 3) a0j)))) (a0a (a0y a3q hr a0u (a0a (a0v a0s (pv 1) (a1z a7d)) (a0a (pv 2) (a0a (pv 3) a0j)))) a0j)))))))),?_⟩
 fail"st";unfold Row.V at hb;fail"go";refine a1m ha (T_D.cl _) (T_D.n_at _) (a5a _ _) ?_;fail"go";refine a1m ha (T_D.cl _) (T_D.n_at _) (a5a _ _) ?_;fail"go";refine⟨r.x,i,j,rfl,hi,hj,?_⟩;fail"go";refine⟨r.z,i,j,rfl,hi,hj,?_⟩;fail"go";rename_i p hp;exact q p _ (a0c hp _) a0b
include T_M b6m in theorem c9h (F:Fun K "follow" "Signs.follow" a8b f fd):a2k P w K mg base CX0 4 f fd ["self","deed"] (b4z K a7c a5b):=by
 refine F.ok b5p (by fail"ln") ?_;fail"fi";obtain⟨x,y,n,d,rs,rfl,⟨dx,a,xs,hx,ha,hR⟩,hl,hD,hw,q⟩:=h;refine⟨_,(a0m (a9a (pv 0) (a8q (sc:=a0f a8b) rfl (by fail"k5") (by show ("row":Str)∉(["self","deed"]:List Str);decide +kernel) (by show (".0":Str)∉(["self","deed"]:List Str);decide +kernel) b5p.nd rfl (a5m (a2g (pv 0) rfl)) (fun _ _ _ _=>a8v) (fun _ _ _ _=>(c2q b6m hr a0u (pv 2) (a0a (pv 0) a0j)))) rfl)),?_⟩;obtain⟨dx1,tt,hd1,hd2,hd4⟩:=id hD;fail"st";fail"go";refine st_cqE ?_;fail"go";refine a1m hx (T_M.cl .sg) (T_M.n_kept .sg) rfl ?_;have hlx:=hR.len;refine c9f (SqL.of ha) (fun i ys H'=>a2f H H'/\RL K H' ((rs.take i).map (act d)) ys) (by omega) ⟨a2f.refl _,.nil⟩ ?_ ?_ ?_ ?_
 ·rintro i ys H' ⟨_,h2⟩;have:=h2.len;rw[A0c,A0u] at this;omega
 ·rintro i ys H' ⟨h1,_⟩;exact SqL.of (h1 _ _ ha)
 ·rintro i x1 ys H' hget ⟨h1,h2⟩;obtain⟨r,t,e1,rfl,sq⟩:=hR.get hget;refine d2s ?_;fail"go";refine a4q (h1 _ _ hd1) (flds_no _ _ (by decide +kernel) (by decide +kernel) (by decide +kernel)) ?_;fail"go";refine⟨y,t,d,r,rfl,rfl,hD.same h1,hw,h1.tup (SqT.of sq),fun p2 H2 hS2 hp2=>?_⟩;fail"go";refine⟨h1.trans hS2,?_⟩;rw[take_snoc e1,A1b];exact(h2.stay fun y ys s=>hS2 _ _ s).snoc hp2
 ·rintro ys H' ⟨h1,h2⟩ p1 hp1;rw[hlx,A1h] at h2;have k1:=a0c hp1 (.lst ys) _ _ (h1 _ _ hx);fail"go";refine a5n k1 (T_M.cl .sg) (T_M.n_kept .sg) (by simp) ?_;have hB:But x (upd H' p1 (.lst ys)) (upd (upd H' p1 (.lst ys)) x (.ins (a5b .sg) dx [("n",.int (n:Int)),("kept",.ref p1)])):=But.upd;have hpp:p1≠x:=fun z=>by rw[z,h1 _ _ hx] at hp1;cases hp1
  refine q _ (fun c o hc e=>hB _ _ hc (a0c hp1 _ _ _ (h1 _ _ e))) ⟨dx,p1,ys,a0b,hB _ _ hpp a0b,?_⟩;exact(h2.stay fun y ys s=>a0c hp1 _ _ _ s).stay fun y ys s=>hB _ _ (fun z=>by rw[z,k1] at s;cases s) s
include T_D b7a in theorem d4q (F:Fun K "wires" "Deed.wires" b5k f fd):a2k P w K mg base CX0 1 f fd ["self"] (c0d K a7c):=by
 refine F.ok d6w (by fail"ln") ?_;fail"fi";obtain⟨a,d,rfl,⟨dx,t,ha,ht,hl⟩,q⟩:=h;refine⟨_,(a0m (a0x (b5u c1u rfl b7a c8p (a0a (a2g (pv 0) rfl) a0j)))),?_⟩;have ht':SqT K H t (vn d.w):=SqT.of ht;fail"st";fail"go";refine a1m ha (T_D.cl _) (T_D.n_at _) (a5a _ _) ?_;fail"go";exact q _ (by assumption)
include T_D in theorem c4t (F:Fun K "__init__" "Deed.__init__" b0b f fd):a2k P w K mg base CX0 1 f fd ["self","word","undoer","at"] (a8z K a7c):=by
 refine F.ok c5c (by fail"ln") ?_;fail"fi";obtain⟨p,w,u,t,rfl,k,dx,hp,q⟩:=h
 refine⟨_,(a0d (a9a (pv 0) (pv 1) rfl)
   (a0d (a9a (pv 0) (pv 2) rfl)
   (a0m (a9a (pv 0) (pv 3) rfl)))),?_⟩
 fail"st";fail"go";refine a5n hp (T_D.cl k) (T_D.n_word k) (by decide) ?_;fail"go";refine a5n a0b (T_D.cl k) (T_D.n_undoer k) (A2n (a7w _ _ _) (by decide)) ?_;fail"go";refine a5n a0b (T_D.cl k) (T_D.n_at k) (A2n (a7w _ _ _) (A2n (Nat.succ_le_succ (a7w _ _ _)) (by decide))) ?_;rw[d6z,d6z,flds_put];exact q
include a0w in theorem c4b (F:Fun K "__init__" "Swap.__init__" b0q f fd):a2k P w K mg base CX0 2 f fd ["self","j","k"] (a8t K a7c):=by
 refine F.ok c4n (by fail"ln") ?_;fail"fi";obtain⟨p,j,i,rfl,dx,hp,q⟩:=h;refine⟨_,(a0m (a2y (pe_cm a0w hr a0u (a0a (pv 0) (a0a a3m (a0a a3m (a0a (a2h (a0a (pv 1) (a0a (pv 2) a0j))) a0j))))))),?_⟩;fail"go";rename_i t ht;refine⟨p,_,_,t,rfl,.swap,dx,?_,q t ht⟩;rw[a0q (a0p hp ht)];exact hp
include a0w in theorem c4k (F:Fun K "__init__" "Over.__init__" b0j f fd):a2k P w K mg base CX0 2 f fd ["self","k"] (a8y K a7c):=by
 refine F.ok c4z (by fail"ln") ?_;fail"fi";obtain⟨p,j,rfl,dx,hp,q⟩:=h;refine⟨_,(a0m (a2y (pe_cm a0w hr a0u (a0a (pv 0) (a0a a3m (a0a a3m (a0a (a2h (a0a (pv 1) a0j)) a0j))))))),?_⟩;fail"go";rename_i t ht;refine⟨p,_,_,t,rfl,.over,dx,?_,q t ht⟩;rw[a0q (a0p hp ht)];exact hp
include a0w in theorem b7s (F:Fun K "__init__" "Quarter.__init__" a6y f fd):a2k P w K mg base CX0 2 f fd ["self","k"] (a6b K a7c):=by
 refine F.ok b8q (by fail"ln") ?_;fail"fi";obtain⟨p,j,rfl,dx,hp,q⟩:=h;refine⟨_,(a0m (a2y (pe_cm a0w hr a0u (a0a (pv 0) (a0a a3m (a0a a3m (a0a (a2h (a0a (pv 1) a0j)) a0j))))))),?_⟩;fail"go";rename_i t ht;refine⟨p,_,_,t,rfl,.quarter,dx,?_,q t ht⟩;rw[a0q (a0p hp ht)];exact hp
include a0w in theorem c5d (F:Fun K "__init__" "Back.__init__" b0s f fd):a2k P w K mg base CX0 2 f fd ["self","k"] (a8x K a7c):=by
 refine F.ok c4w (by fail"ln") ?_;fail"fi";obtain⟨p,j,rfl,dx,hp,q⟩:=h;refine⟨_,(a0m (a2y (pe_cm a0w hr a0u (a0a (pv 0) (a0a a3m (a0a a3m (a0a (a2h (a0a (pv 1) a0j)) a0j))))))),?_⟩;fail"go";rename_i t ht;refine⟨p,_,_,t,rfl,.back,dx,?_,q t ht⟩;rw[a0q (a0p hp ht)];exact hp
include a0w in theorem c4u (F:Fun K "__init__" "Both.__init__" b0m f fd):a2k P w K mg base CX0 2 f fd ["self","k"] (a8u K a7c):=by
 refine F.ok c3x (by fail"ln") ?_;fail"fi";obtain⟨p,j,rfl,dx,hp,q⟩:=h;refine⟨_,(a0m (a2y (pe_cm a0w hr a0u (a0a (pv 0) (a0a a3m (a0a a3m (a0a (a2h (a0a (pv 1) a0j)) a0j))))))),?_⟩;fail"go";rename_i t ht;refine⟨p,_,_,t,rfl,.both,dx,?_,q t ht⟩;rw[a0q (a0p hp ht)];exact hp
include a0w in theorem c1b (F:Fun K "__init__" "Where.__init__" a8m f fd):a2k P w K mg base CX0 2 f fd ["self","j","k"] (a7s K a7c):=by
 refine F.ok c1q (by fail"ln") ?_;fail"fi";obtain⟨p,j,i,rfl,dx,hp,q⟩:=h;refine⟨_,(a0m (a2y (pe_cm a0w hr a0u (a0a (pv 0) (a0a a3m (a0a a3m (a0a (a2h (a0a (pv 1) (a0a (pv 2) a0j))) a0j))))))),?_⟩;fail"go";rename_i t ht;refine⟨p,_,_,t,rfl,.wher,dx,?_,q t ht⟩;rw[a0q (a0p hp ht)];exact hp
include a1x a1t b4n a4e d0x b2m b_str in theorem d1p (F:Fun K "check_words" "check_words" a9p f fd):a2k P w K mg base CX0 2 f fd ["words"] (b6e K):=by
 refine F.ok b2e (by fail"ln") ?_;fail"fi";obtain⟨v,rfl,hq⟩:=h
 refine⟨_,(a0d (a3t (PW.pt (d6c (b4g (b0h (d3k rfl a1x (pv 0) b2m c1k))) (c3h (a1b a8r (a3e a9v rfl b4n A5f (a0a (pv 0) a0j)) a0k (a1j _))))) (a0m a4r) a1q)
   (a0d (a3t (PW.pt (d6c (b4g (b0h (d3k rfl a1x (a0v a0s (pv 0) a0k) b_str boot_str))) (c3h (a1b op_notInTab (a0v a0s (pv 0) a0k) (pe_gt a4e) rfl)))) (a0m a4r) a1q)
   (a0d (a1k 1 b2e.nd (c6e sl_tup (pv 0) (c6w a0k) c8c))
   (a0d (a3t (a1b op_ne (a3e a9v rfl b4n A5f (a0a (pv 1) a0j)) (a0v ix_tab (pe_gt a4e) (a0v a0s (pv 0) a0k)) (a1j _)) (a0m a4r) a1q)
   (a0d (a3t (b4g (b0h (a3e (c6z rfl) rfl d0x d4c (a0a (a8q (sc:=a0f a9p) rfl (by fail"k5") (by show ("k":Str)∉(["words","at"]:List Str);decide +kernel) (by show (".0":Str)∉(["words","at"]:List Str);decide +kernel) b2e.nd rfl (pi_tup (pv 1)) (fun _ _ _ _=>a8v) (fun _ _ _ _=>(a0y a1t hr a0u (a0a (pv 0) a0j)))) a0j)))) (a0m a4r) a1q)
   (a0m (a3t (PW.pt (pw_and (a1b a8r (a3e a9v rfl b4n A5f (a0a (pv 1) a0j)) a0k (a1j _)) (d3x (a1b a8r (a0v a0s (pv 1) a0k) (a0v a0s (pv 1) a0k) (a1j _))))) (a0m a4r) a1q))))))),?_⟩
 fail"st";fail"go";have tl:Tab K a4c tabW:=a4e.2
 rcases hq with nw|⟨a,k,is,rfl,⟨ha,hl,hn⟩,hQ⟩
 ·exact nw.elim
 ·refine c0t (b8x.tup ha) a3y ?_;have ha':=SqT.of (K:=K) ha;fail"go";refine ite_f (fun z=>by first|(simp at z;done)|(simp at z;omega)) ?_;fail"go";refine st_inTab tl ?_;rw[tab_word,show (true != (some (DK.n _:Int)).isSome)=false from rfl];fail"go";refine st_tl ha' (fun p hp=>?_);have hp':SqT K (upd H p (.tup (is.map V.int))) p (is.map V.int):=SqT.of a0b;fail"go";refine st_ixTab tl (tab_word k) ?_;fail"go";rw[A0c];refine iteN (fun c=>(c (by omega)).elim) (fun _=>?_);fail"go";refine d0d (fun P h=>⟨_,rfl,h⟩) hp' (fun j ys H'=>H'=upd H p (.tup (is.map V.int))/\ys=(A4b j true).map V.bl) (by rw[A0c];have:=k.n_pos;omega) ⟨rfl,rfl⟩ ?_ ?_ ?_ ?_
  ·rintro j ys H' ⟨rfl,rfl⟩;rw[A0c,B1k];omega
  ·rintro j ys H' ⟨rfl,rfl⟩;exact hp'
  ·rintro j x ys H' hx ⟨rfl,rfl⟩;fail"go";obtain⟨i,rfl⟩:=int_get hx;refine⟨_,true,rfl,WN.int _ _ _,rfl,?_⟩;rw[B2d,A1b];rfl
  ·rintro ys H' ⟨rfl,rfl⟩ p2 hp2;fail"go";refine st_all (bs:=A4b (is.map V.int).length true) (SqL.of a0b) ?_;rw[d5b];have hS:a2f H (upd (upd H p (.tup (is.map V.int))) p2 (.lst ((A4b (is.map V.int).length true).map V.bl))):=(a0c hp _).trans (a0c hp2 _);have hp3:SqT K (upd (upd H p (.tup (is.map V.int))) p2 (.lst ((A4b (is.map V.int).length true).map V.bl))) p (is.map V.int):=(a0c hp2 _).tup hp';fail"go";refine b4m (fun c=>?_) (fun c=>?_)
   ·rw[A0c] at c;obtain⟨i,j,rfl⟩:=len2 (l:=is) (by omega)
    have hij:¬i=j:=by
     intro z;subst z;simp at hn
    fail"go";refine ite_f hij ?_;fail"go";exact hQ _ hS
   ·fail"go";exact hQ _ hS
include T_D k_Swap k_Over c0y k_Back k_Both d6b a9g b_min in theorem c5j (F:Fun K "deed_of_words" "deed_of_words" b0a f fd):a2k P w K mg base CX0 4 f fd ["words"] (b2y K a7c):=by
 refine F.ok b4k (by fail"ln") ?_;fail"fi";obtain⟨v,rfl,hq⟩:=h
 refine⟨_,(a0d (a2y (a0y a9g hr a0u (a0a (pv 0) a0j)))
   (a0d (a3t (a1b op_lt (a3e (call_minL rfl) rfl b_min boot_min (a0a (c6e sl_tup (pv 0) (c6w a0k) c8c) a0j)) a0k (a1j _)) (a0m a4r) a1q)
   (a0d (a1k 1 b4k.nd (a0v a0s (pv 0) a0k))
   (a0d (a3t (a1b a8r (pv 1) a3m (a1j _)) (a0m (a0x (b4c k_Over hr a0u (a0a (a0v a0s (pv 0) a0k) a0j)))) a1q)
   (a0d (a3t (a1b a8r (pv 1) a3m (a1j _)) (a0m (a0x (b4c c0y hr a0u (a0a (a0v a0s (pv 0) a0k) a0j)))) a1q)
   (a0d (a3t (a1b a8r (pv 1) a3m (a1j _)) (a0m (a0x (b4c k_Back hr a0u (a0a (a0v a0s (pv 0) a0k) a0j)))) a1q)
   (a0d (a3t (a1b a8r (pv 1) a3m (a1j _)) (a0m (a0x (b4c k_Both hr a0u (a0a (a0v a0s (pv 0) a0k) a0j)))) a1q)
   (a0d (a3t (a1b a8r (pv 1) a3m (a1j _)) (a0m (a0x (b4c d6b hr a0u (a0a (a0v a0s (pv 0) a0k) (a0a (a0v a0s (pv 0) a0k) a0j))))) a1q)
   (a0m (a0x (b4c k_Swap hr a0u (a0a (a0v a0s (pv 0) a0k) (a0a (a0v a0s (pv 0) a0k) a0j))))))))))))),?_⟩
 fail"st";fail"go"
 rcases hq with nw|⟨a,k,is,rfl,wd,hQ,hE⟩
 ·exact nw.elim
 ·refine⟨_,rfl,.inr ⟨a,k,is,rfl,wd,fun H1 hS1=>?_⟩⟩;obtain⟨ha,hl,hn⟩:=wd;have ha1:SqT K H1 a (.str k.word::is.map V.int):=SqT.of (hS1 _ _ ha);have hk0:=k.n_pos;fail"go";refine st_tl ha1 (fun p hp=>?_);fail"go";refine st_bestT (ns:=is) (SqT.of a0b) (by omega) fun M hM hle=>?_;have hS2:a2f H (upd H1 p (.tup (is.map V.int))):=hS1.trans (a0c hp _);have ha2:SqT K (upd H1 p (.tup (is.map V.int))) a (.str k.word::is.map V.int):=(a0c hp _).tup ha1;fail"go";refine b4m (fun c=>?_) (fun c=>?_)
  ·exact(hE (fun z=>by have:=z M hM;omega) _ hS2).elim
  ·have hpos:∀i∈is,0<=i:=fun i hi=>by have:=hle i hi;omega
   have hQ':=hQ hpos
   have fin1:∀(x dx:Addr) (i:Int),is=[i]->(upd H1 p (.tup (is.map V.int))) x=none->(upd H1 p (.tup (is.map V.int))) dx=none->dx≠x->
     b9r K a7c k [.ref x,.int i] (upd (upd (upd H1 p (.tup (is.map V.int))) dx (.own x)) x (.ins (a7c k) dx [])) (fun v H2=>v=.non/\Q (.ref x) H2) E0:=by
    intro x dx i hi hx hdx hne;obtain⟨j,rfl⟩:∃j:Nat,i=(j:Int):=⟨i.toNat,by have:=hpos i (by rw[hi];simp);omega⟩;refine⟨x,j,rfl,dx,a0b,fun t ht=>⟨rfl,?_⟩⟩;refine hQ' x ⟨k,[j]⟩ _ (hS2.trans (same_init hx hdx ht)) ⟨dx,t,a0b,?_,by show 1=k.n;rw[<- hl,hi];rfl⟩ rfl hi.symm;rw[a0q (A1e (a0p a0b ht)),a0b]
   have fin2:∀(x dx:Addr) (i i2:Int),is=[i,i2]->(upd H1 p (.tup (is.map V.int))) x=none->(upd H1 p (.tup (is.map V.int))) dx=none->dx≠x->
     d6r K a7c k [.ref x,.int i,.int i2] (upd (upd (upd H1 p (.tup (is.map V.int))) dx (.own x)) x (.ins (a7c k) dx [])) (fun v H2=>v=.non/\Q (.ref x) H2) E0:=by
    intro x dx i i2 hi hx hdx hne;obtain⟨j,rfl⟩:∃j:Nat,i=(j:Int):=⟨i.toNat,by have:=hpos i (by rw[hi];simp);omega⟩;obtain⟨j2,rfl⟩:∃j:Nat,i2=(j:Int):=⟨i2.toNat,by have:=hpos i2 (by rw[hi];simp);omega⟩;refine⟨x,j,j2,rfl,dx,a0b,fun t ht=>⟨rfl,?_⟩⟩;refine hQ' x ⟨k,[j,j2]⟩ _ (hS2.trans (same_init hx hdx ht)) ⟨dx,t,a0b,?_,by show 2=k.n;rw[<- hl,hi];rfl⟩ rfl hi.symm;rw[a0q (A1e (a0p a0b ht)),a0b]
   cases k with
   | over=>
    obtain⟨i,rfl⟩:=len1 hl;fail"kw";exact fun x dx hx hdx hne=>fin1 x dx i rfl hx hdx hne
   | quarter=>
    obtain⟨i,rfl⟩:=len1 hl;fail"kw";exact fun x dx hx hdx hne=>fin1 x dx i rfl hx hdx hne
   | back=>
    obtain⟨i,rfl⟩:=len1 hl;fail"kw";exact fun x dx hx hdx hne=>fin1 x dx i rfl hx hdx hne
   | both=>
    obtain⟨i,rfl⟩:=len1 hl;fail"kw";exact fun x dx hx hdx hne=>fin1 x dx i rfl hx hdx hne
   | wher=>
    obtain⟨i,i2,rfl⟩:=len2 hl;fail"kw";exact fun x dx hx hdx hne=>fin2 x dx i i2 rfl hx hdx hne
   | swap=>
    obtain⟨i,i2,rfl⟩:=len2 hl;fail"kw";exact fun x dx hx hdx hne=>fin2 x dx i i2 rfl hx hdx hne
include c0s a6x b_max in theorem ok_deed_of (F:Fun K "deed_of" "deed_of" c9b f fd):a2k P w K mg base CX0 5 f fd ["words","n"] (c6y K a7c):=by
 refine F.ok d2q (by fail"ln") ?_;fail"fi";obtain⟨v,n,rfl,hq⟩:=h
 refine⟨_,(a0d (a1k 2 d2q.nd (a0y a6x hr a0u (a0a (pv 0) a0j)))
   (a0d (a3t (a1b op_ge (a3e (call_maxL rfl) rfl b_max d5e (a0a (c8e c0s hr a0u (pv 2)) a0j)) (pv 1) (a1j _)) (a0m a4r) a1q)
   (a0m (a0x (pv 2))))),?_⟩
 fail"st";fail"go"
 rcases hq with nw|⟨a,k,is,rfl,wd,hQ,hE⟩
 ·exact nw.elim
 ·refine⟨_,rfl,.inr ⟨a,k,is,rfl,wd,fun hpos p d H1 hS1 hd hdk hdw=>?_,fun hneg H1 hS1=>hE (fun z=>hneg fun i hi=>(z i hi).1) H1 hS1⟩⟩;fail"go";obtain⟨dx,t,hp,ht,hl⟩:=id hd;refine a4q hp (flds_no _ _ (by decide +kernel) (by decide +kernel) (by decide +kernel)) ?_;fail"go";refine⟨p,d,rfl,hd,fun p2 hp2=>?_⟩;fail"go";have hk0:=d.k.n_pos;refine st_bestL (ns:=is) (by rw[<- hdw,<- d3t];exact SqL.of a0b) (by rw[<- hdw,A0c];omega) fun M hM hle=>?_;fail"go";refine b4m (fun c=>?_) (fun c=>?_)
  ·exact(hE (fun z=>by have:=z M hM;omega) H1 hS1).elim
  ·fail"go";exact hQ (fun i hi=>⟨hpos i hi,by have:=hle i hi;omega⟩) p d _ (hS1.trans (a0c hp2 _)) (hd.same (a0c hp2 _)) hdk hdw
include T_M b6u b0r in theorem d4t (F:Fun K "do" "Machine.do" b6g f fd):a2k P w K mg base CX0 7 f fd ["self","words"] (b9v K a7c a5b a0g a0e a0h a0n):=by
 refine F.ok d3n (by fail"ln") ?_;fail"fi";obtain⟨x,v,n,rfl,hn,hor⟩:=h;refine⟨_,(a0m (a2y (c2q b6u hr a0u (pv 0) (a0a (a0y b0r hr a0u (a0a (pv 1) (a0a (a2g (pv 0) rfl) a0j))) a0j)))),?_⟩
 rcases hor with ⟨w,d,rfl,hw,ok,hor⟩|hm
 rotate_left
 ·exact hm.elim
 have wd:WdAt H w d.k (d.w.map fun x:Nat=>(x:Int)):=⟨by rw[<- d3t];exact hw,by rw[A0c];exact ok.len,c9c ok.nd⟩
 have rng:∀i∈d.w.map (fun x:Nat=>(x:Int)),0<=i/\i<(n:Int):=fun i hi=>by
  obtain⟨x,hx,rfl⟩:=List.mem_map.mp hi;have:=ok.lt x hx;omega
 have hw1000:∀i∈d.w,i<=1000:=fun i hi=>by have:=ok.lt i hi;omega
 rcases hor with ⟨a,ws,⟨dx,hx⟩,hA,nd,hl,hT,q⟩|⟨rs,⟨dx,a,xs,hx,ha,hR⟩,hl,q⟩
 ·fail"st";fail"go";refine a4q (d:=MK.ex) hx rfl ?_;fail"go";refine a1m hx (T_M.cl .ex) (T_M.n_n .ex) rfl ?_;fail"go";refine⟨_,n,rfl,.inr ⟨w,d.k,_,rfl,wd,fun _ pd d3 H3 hS3 hd3 hk3 hw3=>?_,fun z=>(z rng).elim⟩⟩;obtain rfl:d3=d:=dd_eq hk3 hw3;fail"go";refine⟨x,pd,a,n,d3,ws,rfl,⟨dx,hS3 _ _ hx⟩,hd3,ok.nd,hw1000,hA.stay hS3,nd,hl,hT.to hS3,fun p H4 hB hT4 hp hE hW=>?_⟩;fail"go";exact q p H4 (fun c o hc e nt=>hB _ _ hc (hS3 _ _ e) nt) hT4 (b6r hS3 hp) hE hW
 ·fail"st";fail"go";refine a4q (d:=MK.sg) hx rfl ?_;fail"go";refine a1m hx (T_M.cl .sg) (T_M.n_n .sg) rfl ?_;fail"go";refine⟨_,n,rfl,.inr ⟨w,d.k,_,rfl,wd,fun _ pd d3 H3 hS3 hd3 hk3 hw3=>?_,fun z=>(z rng).elim⟩⟩;obtain rfl:d3=d:=dd_eq hk3 hw3;fail"go";refine⟨x,pd,n,d3,rs,rfl,⟨dx,a,xs,hS3 _ _ hx,hS3 _ _ ha,hR.stay fun y ys s=>hS3 _ _ s⟩,hl,hd3,hw1000,fun H4 hB hE=>?_⟩;fail"go";exact q H4 (fun c o hc e=>hB _ _ hc (hS3 _ _ e)) hE
include d0h a1d b1c in theorem ok_added (F:Fun K "added" "added" s_added f fd):a2k P w K mg base CX0 2 f fd ["one","other"] (sp_added K):=by
 refine F.ok c6b (by fail"ln") ?_;fail"fi";obtain⟨a,b,W,O,rfl,hW,hO,ndW,lW,lO,q⟩:=h
 refine⟨_,(a0d (a1k 2 c6b.nd (b5u d2m rfl d0h boot_dict (a0a (pv 0) a0j)))
   (a0d (b8d (b0e A1y rfl (b3e (pv 1)) (b5f rfl (a2e (a2a (i:=3) c6b.nd rfl (Or.inl rfl)) (a2e (a2a (i:=4) c6b.nd rfl (Or.inl rfl)) b0v))) (a0m (a2y (a0y b1c hr a0u (a0a (pv 2) (a0a (pv 3) (a0a (pv 4) a0j))))))))
   (a0m (a0x (a0y a1d hr a0u (a0a (pv 2) a0j)))))),?_⟩
 obtain⟨kvW,ha,rW⟩:=id hW;obtain⟨kvs,hb,hWR⟩:=id hO;fail"st";fail"go";refine st_dict ha fun p hp=>?_;fail"go";have hpb:p≠b:=A1e (a0p hb hp);refine a4v (fun P h=>⟨_,rfl,h⟩) (a0c hp _ _ _ hb) (fun o i σ H'=>∃(u0 u1:Option V) (kvs':List (Key×V)),σ=[some (.ref a),some (.ref b),some (.ref p),u0,u1]/\H' b=some (.frz o (.dK kvs))/\H' p=some (.dK kvs')/\WR K H' (c2x W (O.take i)) kvs'/\But b H H') ?_ ?_ ?_ ?_
 ·intro o;refine⟨none,none,kvW,rfl,a0b,by rw[a0q hpb];exact a0b,rW.stay fun y ys s=>(But.upd (f:=b)).tup (a0c hp _ _ _ hb) _ _ ((a0c hp _).tup s),fun c o' hc e=>?_⟩;rw[a0q hc];exact a0c hp _ _ _ e
 ·rintro o i σ H' ⟨u0,u1,kvs',_,h1,_⟩;exact h1
 ·rintro o i k v σ H' x hget ⟨u0,u1,kvs',rfl,h1,h2,h3,h5⟩ hx;obtain⟨c,pp,a',e1,rfl,rfl,sq⟩:=hWR.get hget;have hil:i<O.length:=(List.getElem?_eq_some_iff.mp e1).1;have sq':SqT K (upd H' x (.tup [kV (.inl ((c:Nat):Int)),.ref a'])) a' [.int pp.1,.int pp.2]:=(a0c hx _).tup (h5.tup hb _ _ sq);have hp2:=a0c hx (.tup [kV (.inl ((c:Nat):Int)),.ref a']) _ _ h2;have ha2:=a0c hx (.tup [kV (.inl ((c:Nat):Int)),.ref a']) _ _ h1;have hB2:But b H (upd H' x (.tup [kV (.inl ((c:Nat):Int)),.ref a'])):=fun c o' hc e=>a0c hx _ _ _ (h5 _ _ hc e);have h3':=h3.stay (K:=K) (H':=upd H' x (.tup [kV (.inl ((c:Nat):Int)),.ref a'])) (fun y ys s=>(a0c hx _).tup s);have ht0:SqT K (upd H' x (.tup [kV (.inl ((c:Nat):Int)),.ref a'])) x [.int ((c:Nat):Int),.ref a']:=SqT.of a0b;generalize upd H' x (.tup [kV (.inl ((c:Nat):Int)),.ref a'])=G at sq' hp2 ha2 hB2 h3' ht0 ⊢;have hlen:=c5t (O.take i) W;rw[A0u] at hlen;fail"go";refine⟨p,a',c,rfl,pp,_,_,sq',hp2,h3',by omega,fun G2 kvs2 g1 g2 g3=>?_⟩;fail"go";refine⟨_,_,kvs2,rfl,g3 _ _ (A1e hpb) ha2,g1,?_,fun c o' hc e=>g3 _ _ (a0p e hp) (hB2 _ _ hc e)⟩;rw[adds_step e1];exact g2
 ·rintro o σ H' ⟨u0,u1,kvs',rfl,h1,h2,h3,h5⟩;rw[hWR.len,A1h] at h3
  have SS:a2f H (upd H' b (.dK kvs)):=fun c o' e=>by
   by_cases hc:c=b
   ·subst hc;rw[hb] at e;rw[a0b];exact e
   ·rw[a0q hc];exact h5 _ _ hc e
  have hWW:a8a K (upd H' b (.dK kvs)) p (c2x W O):=⟨kvs',by rw[a0q hpb];exact h2,h3.stay (b8h h1)⟩;have hlen:=c5t O W;fail"go";refine⟨p,_,rfl,hWW,adds_nd _ _ ndW,by omega,fun p2 H2 s2 np2 hW2=>?_⟩;fail"go";exact q p2 H2 (SS.trans s2) (b6r SS np2) hW2
theorem ok_ones (F:Fun K "ones" "ones" s_ones f fd):a2k P w K mg base CX0 1 f fd ["number"] (sp_ones K):=by
 refine F.ok c8y (by fail"ln") ?_;fail"fi";obtain⟨n,rfl,q⟩:=h
 refine⟨_,(a0d (a1k 1 c8y.nd a0k)
   (a0d (a1k 2 c8y.nd (pv 0))
   (a0d (ps_while A1y (a1b op_gt (pv 2) a0k (a1j _)) (a0d (a1k 2 c8y.nd (a0t a5h (pv 2) (a0t b7q (pv 2) a0k)))
   (a0m (a1k 1 c8y.nd (a0t a3v (pv 1) a0k)))))
   (a0m (a0x (pv 1)))))),?_⟩
 fail"go";refine⟨fun m σ H'=>∃k r:Nat,σ=[some (.int n),some (.int k),some (.int r)]/\H'=H/\m=r/\k+pop r=pop n,⟨n,0,n,rfl,rfl,rfl,by omega⟩,?_⟩;rintro m σ H' ⟨k,r,rfl,rfl,rfl,e⟩;fail"go";refine b4m (fun c=>?_) (fun c=>?_)
 ·have c':0<m:=by omega
  refine⟨fun σ' H1=>∃k r:Nat,σ'=[some (.int n),some (.int k),some (.int r)]/\H1=H'/\r<m/\k+pop r=pop n,fun σ' H1 ⟨k,r,e1,e2,e3,e4⟩=>⟨r,e3,k,r,e1,e2,rfl,e4⟩,?_⟩;fail"go";rw[d0m c'];have:=pop_pred m c';exact⟨k+1,m&&&(m-1),rfl,rfl,c9y c',by omega⟩
 ·have c':m=0:=by omega
  subst c';rw[a7z,Nat.add_zero] at e;subst e;fail"go";exact q
include a7e a7d a8d in theorem ok_letters_y (F:Fun K "letters_y" "letters_y" b8s f fd):a2k P w K mg base CX0 2 f fd ["row"] (c2z K):=by
 refine F.ok sc_letters_y (by fail"ln") ?_;fail"fi";obtain⟨a,r,rfl,ha,q⟩:=h;refine⟨_,(a0m (a0x (a0y a8d hr a0u (a0a (a0t a5h (a0v a0s (pv 0) (a1z a7e)) (a0v a0s (pv 0) (a1z a7d))) a0j)))),?_⟩;fail"st";unfold Row.V at ha;fail"go";exact⟨_,rfl,q⟩
include a5s a7e a7d a1p a8d a4y in theorem ok_acted_on (F:Fun K "acted_on" "acted_on" c2h f fd):a2k P w K mg base CX0 3 f fd ["whole","row"] (c7k K):=by
 refine F.ok b0f (by fail"ln") ?_;fail"fi";obtain⟨a,w,ws,r,rfl,⟨kvs,ha,hWR⟩,ok,hl,hw,q⟩:=h
 refine⟨_,(a0d (a1k 2 b0f.nd b6c)
   (a0d (b8d (b0e A1y rfl (b3e (pv 0)) (b5f rfl (a2e (a2a (i:=3) b0f.nd rfl (Or.inl rfl)) (a2e (a2a (i:=4) b0f.nd rfl (Or.inl rfl)) b0v))) (a0d (a1k 5 b0f.nd (a0t a3v (a0v a0s (pv 1) (a1z a1p)) (a0y a8d hr a0u (a0a (a0t a5h (pv 3) (a0v a0s (pv 1) (a1z a7d))) a0j))))
   (a0m (c1g (c7b hr) (pv 2) (a0t a3s (pv 3) (a0v a0s (pv 1) (a1z a7e))) (a0y a5s hr a0u (a0a (pv 4) (a0a (a0t a3v (a0t op_mul a0k (pv 5)) (a0y a4y hr a0u (a0a (pv 1) a0j))) a0j))) rfl)))))
   (a0m (a0x (pv 2))))),?_⟩
 fail"st";fail"go";rename_i p hp;have hpa:p≠a:=A1e (a0p ha hp);refine a4v (fun P h=>⟨_,rfl,h⟩) (a0c hp _ _ _ ha) (fun o i σ H'=>∃(u0 u1 u2:Option V) (kvs':List (Key×V)),σ=[some (.ref a),some (.ref w),some (.ref p),u0,u1,u2]/\H' a=some (.frz o (.dK kvs))/\H' p=some (.dK kvs')/\WR K H' ((ws.take i).map (tE r)) kvs'/\But a H H') ?_ ?_ ?_ ?_
 ·intro o;refine⟨none,none,none,[],rfl,a0b,by rw[a0q hpa];exact a0b,.nil,fun c o' hc e=>?_⟩;rw[a0q hc];exact a0c hp _ _ _ e
 ·rintro o i σ H' ⟨u0,u1,u2,kvs',_,h1,_⟩;exact h1
 ·rintro o i k v σ H' x hget ⟨u0,u1,u2,kvs',rfl,h1,h2,h3,h5⟩ hx;obtain⟨b,pp,a',e1,rfl,rfl,sq⟩:=hWR.get hget;have hil:i<ws.length:=(List.getElem?_eq_some_iff.mp e1).1;have sq':SqT K (upd H' x (.tup [kV (.inl ((b:Nat):Int)),.ref a'])) a' [.int pp.1,.int pp.2]:=(a0c hx _).tup (h5.tup ha _ _ sq);have hw':=(a0c hx (.tup [kV (.inl ((b:Nat):Int)),.ref a'])).tup (h5.tup ha _ _ hw);have hp2:=a0c hx (.tup [kV (.inl ((b:Nat):Int)),.ref a']) _ _ h2;have ha2:=a0c hx (.tup [kV (.inl ((b:Nat):Int)),.ref a']) _ _ h1;have hB2:But a H (upd H' x (.tup [kV (.inl ((b:Nat):Int)),.ref a'])):=fun c o' hc e=>a0c hx _ _ _ (h5 _ _ hc e);have h3':=h3.stay (K:=K) (H':=upd H' x (.tup [kV (.inl ((b:Nat):Int)),.ref a'])) (fun y ys s=>(a0c hx _).tup s);have ht0:SqT K (upd H' x (.tup [kV (.inl ((b:Nat):Int)),.ref a'])) x [.int ((b:Nat):Int),.ref a']:=SqT.of a0b;generalize upd H' x (.tup [kV (.inl ((b:Nat):Int)),.ref a'])=G at sq' hw' hp2 ha2 hB2 h3' ht0 ⊢;have hw2:=hw';unfold Row.V at hw2;fail"go";refine⟨_,rfl,?_⟩;fail"go";refine⟨w,r,rfl,hw',?_⟩
  have e2:(2:Int)*((r.m:Int)+((pop (b&&&r.z):Nat):Int))+((pop (r.x&&&r.z):Nat):Int)=((trn r b:Nat):Int):=by
   unfold trn;rw[A0v b];push_cast;omega
  fail"go";rw[e2];refine⟨a',trn r b,pp,rfl,sq',fun t G2 hS2 ht2=>?_⟩;fail"go";have hpG:=hS2 _ _ hp2;have h3G:=h3'.stay (K:=K) (H':=G2) fun y ys s=>hS2.tup s;have hB:But p G2 (upd G2 p (.dK (c5r kvs' (.inl ((b^^^r.x:Nat):Int)) (.ref t)))):=But.upd;have hlen:=h3'.len;rw[A0c,A0u] at hlen;refine⟨p,_,rfl,c8t hpG (by omega),_,_,_,_,rfl,hB _ _ (A1e hpa) (hS2 _ _ ha2),a0b,?_,fun c o' hc e=>hB _ _ (a0p e hp) (hS2 _ _ (hB2 _ _ hc e))⟩;rw[tE_step ok e1];exact(h3G.stay (fun y ys s=>hB.tup hpG y ys s)).put (hB.tup hpG _ _ ht2)
 ·rintro o σ H' ⟨u0,u1,u2,kvs',rfl,h1,h2,h3,h5⟩;fail"go";rw[hWR.len,A1h] at h3;refine q p _ (fun c o' e=>?_) hp ⟨kvs',by rw[a0q hpa];exact h2,h3.stay (b8h h1)⟩
  by_cases hc:c=a
  ·subst hc;rw[ha] at e;rw[a0b];exact e
  ·rw[a0q hc];exact h5 _ _ hc e
include a7e a7d a1p d4r b6q in theorem ok_half_by (F:Fun K "half_by" "half_by" c8n f fd):a2k P w K mg base CX0 4 f fd ["whole","row","value"] (d3j K):=by
 refine F.ok sc_half_by (by fail"ln") ?_;fail"fi";obtain⟨a,w,v,ws,r,rfl,hW,nd,hl,hw,q⟩:=h;refine⟨_,(a0m (a0x (a0y d4r hr a0u (a0a (pv 0) (a0a (a0y b6q hr a0u (a0a (pv 0) (a0a (a2h (a0a (a0t a3s (a0v a0s (pv 1) (a1z a1p)) (pv 2)) (a0a (a0v a0s (pv 1) (a1z a7e)) (a0a (a0v a0s (pv 1) (a1z a7d)) a0j)))) a0j))) a0j))))),?_⟩;fail"st";unfold Row.V at hw;fail"go";rename_i p hp;refine⟨a,p,ws,⟨r.m^^^v,r.x,r.z⟩,rfl,hW.stay (a0c hp _),nd,by omega,SqT.of a0b,fun p1 H1 hS1 hp1 hW1=>?_⟩;have S1:=(a0c hp (.tup [.int ((r.m^^^v:Nat):Int),.int (r.x:Int),.int (r.z:Int)])).trans hS1;fail"go";refine⟨a,p1,ws,_,rfl,hW.stay S1,hW1,nd,hl,by rw[A0c];exact hl,fun p2 H2 hS2 hp2 hW2=>?_⟩;fail"go";exact q p2 H2 (S1.trans hS2) (b6r S1 hp2) hW2
include T_M a8k in theorem b8f (F:Fun K "sure_value" "Exact.sure_value" a6q f fd):a2k P w K mg base CX0 5 f fd ["self","row"] (b0p K a5b):=by
 refine F.ok b8p (by fail"ln") ?_;fail"fi";obtain⟨x,w,a,n,ws,r,rfl,⟨dx,hx⟩,hW,wn,hn,hw,ok,hm,q⟩:=h;have hl:=wn.len hn
 refine⟨_,(a0d (a3t (a1b (op_eqM (b3g hr)) (a0y a8k hr a0u (a0a (a2g (pv 0) rfl) (a0a (pv 1) (a0a a0k a0j)))) b6c (a1j _)) (a0m (a0x a0k)) a1q)
   (a0d (a3t (a1b (op_eqM (b3g hr)) (a0y a8k hr a0u (a0a (a2g (pv 0) rfl) (a0a (pv 1) (a0a a0k a0j)))) b6c (a1j _)) (a0m (a0x a0k)) a1q)
   (a0m (a0x c3n)))),?_⟩
 fail"st";fail"go";refine a1m hx (T_M.cl .ex) (T_M.n_amounts .ex) rfl ?_;fail"go";refine⟨a,w,1,ws,r,rfl,hW,wn.nd,by omega,hw,fun p1 H1 S1 hp1 hW1=>?_⟩;fail"go";rename_i e1 he1;refine eq_nilJ (hW1.stay (a0c he1 _)) a0b (Wn.halfJ (r:=⟨r.m^^^1,r.x,r.z⟩) wn ok.x).nd ⟨_,rfl,?_⟩;have S2:=S1.trans (a0c he1 (.dK []));generalize upd H1 e1 (.dK [])=H2 at S2 ⊢;rw[hm];have j1:half ⟨0^^^1,r.x,r.z⟩ ws=half ⟨1,r.x,r.z⟩ ws:=rfl;have j0:half ⟨0^^^0,r.x,r.z⟩ ws=half ⟨0,r.x,r.z⟩ ws:=rfl;rw[j1];unfold jv at q;refine b4m (fun c=>?_) (fun c=>?_)
 ·rw[if_pos c] at q;fail"go";exact q _ S2
 rw[if_neg c] at q;fail"go";refine a1m (S2 _ _ hx) (T_M.cl .ex) (T_M.n_amounts .ex) rfl ?_;fail"go";refine⟨a,w,0,ws,r,rfl,hW.stay S2,wn.nd,by omega,S2.tup hw,fun p3 H3 S3 hp3 hW3=>?_⟩;fail"go";rename_i e2 he2;refine eq_nilJ (hW3.stay (a0c he2 _)) a0b (Wn.halfJ (r:=⟨r.m^^^0,r.x,r.z⟩) wn ok.x).nd ⟨_,rfl,?_⟩;have S4:=(S2.trans S3).trans (a0c he2 (.dK []));generalize upd H3 e2 (.dK [])=H4 at S4 ⊢;rw[hm,j0];refine b4m (fun c2=>?_) (fun c2=>?_)
 ·rw[if_pos c2] at q;fail"go";exact q _ S4
 ·rw[if_neg c2] at q;fail"go";exact q _ S4
include T_N in theorem c9a (F:Fun K "left_of" "Span.left_of" b2d f fd):a2k P w K mg base CX0 1 f fd ["self","number","which"] (b6f K c2n):=by
 refine F.ok a3b (by fail"ln") ?_;fail"fi";obtain⟨p,l,x,w,us,ss,rfl,⟨dx,as,hp,hl,hss,ok,hz⟩,hu,q⟩:=h
 refine⟨_,(a0d (a1k 3 a3b.nd (pv 1))
   (a0d (b0e A1y rfl (a5m (a2g (pv 0) rfl)) (b5f rfl (a2e (a2a (i:=4) a3b.nd rfl (Or.inl rfl)) (a2e (a2a (i:=5) a3b.nd rfl (Or.inl rfl)) (a2e (a2a (i:=6) a3b.nd rfl (Or.inl rfl)) b0v)))) (a0m (a3t (a1b op_ne (a0t a5h (pv 3) (pv 4)) a0k (a1j _)) (a0d (a1k 3 a3b.nd (a0t a3s (pv 3) (pv 5)))
   (a0m (a1k 2 a3b.nd (a0t a3s (pv 2) (pv 6))))) a1q)))
   (a0m (a0x (a2h (a0a (pv 3) (a0a (pv 2) a0j))))))),?_⟩
 fail"st";fail"go";refine st_forE ?_;fail"go";refine a1m hp (T_N.cl _) (T_N.n_sums _) (sums_look _ _) ?_;refine st_forAt (SqL.of hl) (fun i σ H'=>∃(u1 u2 u3:Option V),σ=[some (.ref p),some (.int x),some (.int ((red (ss.take i) x w).2:Int)),some (.int ((red (ss.take i) x w).1:Int)),u1,u2,u3]/\a2f H H') ⟨none,none,none,rfl,a2f.refl _⟩ ?_ ?_ ?_
 ·rintro i σ H' _ ⟨_,_,_,_,s⟩;exact SqL.of (s _ _ hl)
 ·rintro i y σ H' hy ⟨u1,u2,u3,rfl,s⟩;obtain⟨a,ha,rfl⟩:=a6m hy;obtain⟨sm,hsm,hsa⟩:=hss.get ha;have hsa':SqT K H' a [.int ((2^sm.j:Nat):Int),.int (sm.t:Int),.int (sm.p:Int)]:=SqT.of (s _ _ hsa);rw[red_at x w hsm];generalize red (ss.take i) x w=lw;obtain⟨lf,wh⟩:=lw;dsimp only;have hz:=and_pow_ne lf sm.j;fail"go"
  by_cases hb:lf.testBit sm.j=true
  ·simp only[if_pos hb];refine iteN (fun c=>?_) (fun c=>?_)
   ·fail"go";exact⟨_,_,_,rfl,s⟩
   ·rw[hz.mp c] at hb;cases hb
  ·simp only[if_neg hb];refine iteN (fun c=>(c (hz.mpr (eq_false_of_ne_true hb))).elim) (fun c=>?_);fail"go";exact⟨_,_,_,rfl,s⟩
 ·rintro σ H' ⟨u1,u2,u3,rfl,s⟩;fail"go";rename_i p2 hp2;rw[a1r,hss.len,A1h];exact q p2 _ (s.trans (a0c hp2 _)) a0b
include a6a in theorem c3v (F:Fun K "parts_of" "Span.parts_of" b0c f fd):a2k P w K mg base CX0 2 f fd ["self","number"] (b4d K c2n):=by
 refine F.ok b4e (by fail"ln") ?_;fail"fi";obtain⟨p,l,x,us,ss,rfl,hS,hu,q⟩:=h
 refine⟨_,(a0d (a1k 2 b4e.nd (c2q a6a hr a0u (pv 0) (a0a (pv 1) (a0a a0k a0j))))
   (a0m (a0x (c5p (a1b a8r (a0v a0s (pv 2) a0k) a0k (a1j _)) (a0v a0s (pv 2) a0k) c3n)))),?_⟩
 fail"st";obtain⟨dx,as,hp,hl,hss,ok,hz⟩:=id hS;fail"go";refine a4q hp (d4u _ _ (by decide +kernel) (by decide +kernel)) ?_;fail"go";refine⟨p,l,x,0,us,ss,rfl,hS,hu,fun q2 H' s hq2=>?_⟩;have hq':SqT K H' q2 [.int ((red ss x 0).1:Int),.int ((red ss x 0).2:Int)]:=SqT.of hq2;fail"go";refine b4m (fun c=>?_) (fun c=>?_)
 ·fail"go";exact(q H' s).1 (by omega)
 ·fail"go";exact(q H' s).2 (by omega)
theorem d7f (F:Fun K "lowest_bit" "lowest_bit" b5r f fd):a2k P w K mg base CX0 1 f fd ["number"] (b9u K):=by
 refine F.ok d7c (by fail"ln") ?_;fail"fi";obtain⟨v,rfl,hv,q⟩:=h;refine⟨_,(a0m (a0x (a0t a5h (pv 0) (pe_un d2u (pv 0))))),?_⟩;fail"go";obtain⟨j,e,hj⟩:=low_bit v hv
 have e2:A2y (v:Int) (-(v:Int))=((2^j:Nat):Int):=by
  unfold A2y;rw[decide_eq_true (show (0:Int)<=(v:Int) by omega),decide_eq_false (show ¬(0:Int) <= -(v:Int) by omega)];show (v:Int)-_=_
  have e3:(B2h (-(v:Int))).toNat=v-1:=by
   unfold B2h;omega
  rw[e3,A3p,<- e];have:=A8u (n:=v) (m:=v-1);omega
 rw[e2];exact q j hj
include T_N a6a b1h in theorem ok_Span_take (F:Fun K "take" "Span.take" b8n f fd):a2k P w K mg base CX0 2 f fd ["self","number"] (c3j K c2n):=by
 refine F.ok c3b (by fail"ln") ?_;fail"fi";obtain⟨p,l,x,us,ss,rfl,hS,hu,q⟩:=h
 refine⟨_,(a0d (a1k 2 c3b.nd (c2q a6a hr a0u (pv 0) (a0a (pv 1) (a0a (a0t a8g a0k (a2g (pv 0) rfl)) a0j))))
   (a0d (a9a (pv 0) (a0t a3v (a2g (pv 0) rfl) a0k) rfl)
   (a0m (a3t (a1b op_ne (a0v a0s (pv 2) a0k) a0k (a1j _)) (a0m (a2y (pe_bm B0x B0m B0n mt_append (a2g (pv 0) rfl) (a0a (a2h (a0a (a0y b1h hr a0u (a0a (a0v a0s (pv 2) a0k) a0j)) (a0a (a0v a0s (pv 2) a0k) (a0a (a0v a0s (pv 2) a0k) a0j)))) a0j)))) a1q)))),?_⟩
 fail"st";obtain⟨dx,as,hp,hl,hss,ok,hz⟩:=id hS;fail"go";refine a4q hp (d4u _ _ (by decide +kernel) (by decide +kernel)) ?_;fail"go";refine a1m hp (T_N.cl _) (T_N.n_taken _) (d2t _ _) ?_;fail"go";refine⟨p,l,x,2^us.length,us,ss,rfl,hS,hu,fun q2 H' s hq2=>?_⟩;have hp':=s _ _ hp;have hl':=s _ _ hl;have hss':=hss.mono fun a d (x:Sm3 H a d)=>s _ _ x;have key:=fun j hj=>SpOk.take ok x j hj;generalize hr:red ss x (2^us.length)=lw at hq2 key;obtain⟨lf,wh⟩:=lw;dsimp only at hq2 key;fail"go";refine a1m hp' (T_N.cl _) (T_N.n_taken _) (d2t _ _) ?_;fail"go";refine a5n hp' (T_N.cl _) (T_N.n_taken _) (by show 2<1000;decide) ?_;rw[taken_put,show ((us.length:Nat):Int)+1=(((us++[x]).length:Nat):Int) from by rw[A0s];push_cast;rfl];have npl:l≠p:=c3r hl' hp' (by intro z;cases z);have B1:But p H' (upd H' p (.ins (c2n .span) dx (b2x l (((us++[x]).length:Nat):Int)))):=But.upd;have f_p:(upd H' p (.ins (c2n .span) dx (b2x l (((us++[x]).length:Nat):Int)))) p=some (.ins (c2n .span) dx (b2x l (((us++[x]).length:Nat):Int))):=a0b;generalize upd H' p (.ins (c2n .span) dx (b2x l (((us++[x]).length:Nat):Int)))=G at B1 f_p ⊢;have f_l:=B1 _ _ npl hl';have f_q:G q2=some (.tup [.int (lf:Int),.int (wh:Int)]):=B1 _ _ (c3r hq2 hp' (by intro z;cases z)) hq2;have f_s:=hss'.mono fun a d (x:Sm3 H' a d)=>(B1 _ _ (c3r x hp' (by intro z;cases z)) x:Sm3 G a d);have sq:SqT K G q2 [.int (lf:Int),.int (wh:Int)]:=SqT.of f_q;have oth1:∀c o,c≠p->H c=some o->G c=some o:=fun c o hc e=>B1 c o hc (s c o e);have lss:as.length=ss.length:=hss.len;fail"go";refine iteN (fun c=>?_) (fun c=>?_)
 ·have hlf:lf≠0:=fun z=>c (by rw[z];rfl);fail"go";refine a1m f_p (T_N.cl _) (T_N.n_sums _) (sums_look _ _) ?_;have sl:SqL K G l (refs as):=SqL.of f_l;have hle:(refs as).length<=900:=by rw[a1r];omega
  fail"go";refine⟨lf,rfl,by omega,fun j hj=>?_⟩;fail"go";rename_i p3 hp3;have S3:=a0c hp3 (.tup [.int ((2^j:Nat):Int),.int (lf:Int),.int (wh:Int)]);have w3:Sm3 (upd G p3 (.tup [.int ((2^j:Nat):Int),.int (lf:Int),.int (wh:Int)])) p3 ⟨j,lf,wh⟩:=a0b;generalize upd G p3 (.tup [.int ((2^j:Nat):Int),.int (lf:Int),.int (wh:Int)])=G3 at S3 w3 ⊢;have g_l:=S3 _ _ f_l;have k1:=key j fun _=>hj;rw[if_pos hlf] at k1;have B3:But l G3 (upd G3 l (.lst (refs as++[.ref p3]))):=But.upd;refine q _ (ss++[⟨j,lf,wh⟩]) (fun c o h1 h2 e=>B3 c o h2 (S3 _ _ (oth1 c o h1 e))) ⟨dx,as++[p3],B3 _ _ (A1e npl) (S3 _ _ f_p),by rw[a0b,a7a],?_,k1,by rw[A0s,A0s];show _+1<=_+1;omega⟩;exact(f_s.mono fun a d (x:Sm3 G a d)=>(B3 _ _ (c3r (S3 _ _ x) g_l (by intro z;cases z)) (S3 _ _ x):Sm3 _ a d)).snoc (B3 _ _ (c3r w3 g_l (by intro z;cases z)) w3)
 ·have hlf:lf=0:=by omega
  fail"go";have k0:=key 0 fun z=>(z hlf).elim;rw[if_neg (fun z=>z hlf)] at k0;exact q _ ss (fun c o h1 _ e=>oth1 c o h1 e) ⟨dx,as,f_p,f_l,f_s,k0,by rw[A0s];show _<=_+1;omega⟩
include T_N c6r in theorem c5a (F:Fun K "__init__" "Span.__init__" a9x f fd):a2k P w K mg base CX0 3 f fd ["self","numbers"] (a8n K c2n):=by
 refine F.ok b4f (by fail"ln") ?_;fail"fi";obtain⟨p,n,dx,us,rfl,hp,hn,hu,q⟩:=h
 refine⟨_,(a0d (a9a (pv 0) (a8e a0j) rfl)
   (a0d (a9a (pv 0) a0k rfl)
   (a0m (b0e A1y rfl (a5m (pv 1)) (a2a (i:=2) b4f.nd rfl (Or.inl rfl)) (a0m (a2y (c2q c6r hr a0u (pv 0) (a0a (pv 2) a0j)))))))),?_⟩
 fail"st";fail"go";rename_i l hl;have npl:p≠l:=fun z=>by rw[z,hl] at hp;cases hp
 refine a5n (by rw[a0q npl];exact hp) (T_N.cl _) (T_N.n_sums _) (by show 0<1000;decide) ?_;fail"go";refine a5n a0b (T_N.cl _) (T_N.n_taken _) (by show 1<1000;decide) ?_;rw[d6z,first_put];have f_p:(upd (upd H l (.lst [])) p (.ins (c2n .span) dx (b2x l 0))) p=some (.ins (c2n .span) dx (b2x l 0)):=a0b;have f_l:(upd (upd H l (.lst [])) p (.ins (c2n .span) dx (b2x l 0))) l=some (.lst (refs [])):=by rw[a0q (A1e npl)];exact a0b
 have oth:∀c o,c≠p->H c=some o->(upd (upd H l (.lst [])) p (.ins (c2n .span) dx (b2x l 0))) c=some o:=fun c o hc e=>by rw[a0q hc];exact a0c hl _ _ _ e
 generalize upd (upd H l (.lst [])) p (.ins (c2n .span) dx (b2x l 0))=G at f_p f_l oth ⊢;have nnp:n≠p:=c3r hn hp (by intro z;cases z);fail"go";refine b0d (fun P h=>⟨_,rfl,h⟩) (SqL.of (oth _ _ nnp hn)) (fun i σ H'=>∃(u:Option V) (ss:List Sm),σ=[some (.ref p),some (.ref n),u]/\SnAt c2n H' p l (us.take i) ss/\∀c o,c≠p->H c=some o->H' c=some o) ⟨none,[],rfl,⟨dx,[],f_p,f_l,.nil,SpOk.nil,A0f _⟩,oth⟩ ?_ ?_ ?_
 ·rintro i σ H' _ ⟨u,ss,_,_,o⟩;exact SqL.of (o _ _ nnp hn)
 ·rintro i y σ H' hy ⟨u,ss,rfl,hS,o⟩;obtain⟨v,rfl,hv⟩:=vn_at hy;obtain⟨dx',as,hp',hl',hss,ok,hz⟩:=id hS;fail"go";refine a4q hp' (d4u _ _ (by decide +kernel) (by decide +kernel)) ?_;fail"go";refine⟨p,l,v,us.take i,ss,rfl,hS,by rw[A0u];omega,fun H2 ss' o2 hS2=>?_⟩;fail"go";refine⟨_,ss',rfl,by rw[a1u hv];exact hS2,fun c ob hc e=>o2 c ob hc (fun z=>by rw[z,hl] at e;cases e) (o c ob hc e)⟩
 ·rintro σ H' ⟨u,ss,rfl,hS,o⟩;rw[c8d,A1h] at hS;fail"go";exact q H' l ss o hl hS
include a7e a7d b_max in theorem ok_widest (F:Fun K "widest" "widest" c6c f fd):a2k P w K mg base CX0 1 f fd ["rows"] (sp_widest K):=by
 refine F.ok sc_widest (by fail"ln") ?_;fail"fi";obtain⟨l,as,rs,rfl,hl,hW,hz,h0,hok,q⟩:=h;refine⟨_,(a0m (a0x (a3e (call_maxL rfl) rfl b_max d5e (a0a (a8q (sc:=a0f c6c) rfl (by fail"k5") (by show ("row":Str)∉(["rows"]:List Str);decide +kernel) (by show (".0":Str)∉(["rows"]:List Str);decide +kernel) sc_widest.nd rfl (a5m (pv 0)) (fun _ _ _ _=>a8v) (fun _ _ _ _=>(pe_bm0K (K:=K) rfl B1f A8x A8y b9p (a3e (call_max2 rfl) rfl b_max d5e (a0a (a0v (ix_tupK (K:=K) rfl) (pv 0) (a1z a7e)) (a0a (a0v (ix_tupK (K:=K) rfl) (pv 0) (a1z a7d)) a0j)))))) a0j)))),?_⟩;fail"st";fail"go";refine b3z (fun P h=>⟨_,rfl,h⟩) (SqL.of hl) (fun i ys H'=>H'=H/\ys=vn ((rs.take i).map fun r=>A1p ((max r.x r.z:Nat):Int))) (by rw[a1r];omega) ⟨rfl,rfl⟩ ?_ ?_ ?_ ?_
 ·rintro i ys H' ⟨_,rfl⟩;rw[c8d,A0c,A0u];omega
 ·rintro i ys H' ⟨rfl,_⟩;exact SqL.of hl
 ·rintro i x ys H' hx ⟨rfl,rfl⟩;obtain⟨a,ha,rfl⟩:=a6m hx;obtain⟨r,hr,hra⟩:=hW.get ha;have hra':SqT K H' a [.int (r.m:Nat),.int (r.x:Nat),.int (r.z:Nat)]:=SqT.of hra;fail"go";refine⟨(r.x:Int),(r.z:Int),rfl,?_⟩
  have em:(if (r.z:Int)>(r.x:Int) then (r.z:Int) else (r.x:Int))=((max r.x r.z:Nat):Int):=by
   split<;>omega
  rw[em];fail"go";refine⟨rfl,?_⟩;rw[a1u hr,A1b,<- vn_app];rfl
 ·rintro ys H' ⟨rfl,rfl⟩ p hp;rw[a1r,hW.len,A1h];fail"go";refine st_bestL (ns:=(rs.map fun r=>A1p ((max r.x r.z:Nat):Int)).map fun k:Nat=>(k:Int)) (by rw[<- d3t];exact SqL.of a0b) (by rw[A0c,A0c,<- hW.len];exact h0) fun M hM hall=>?_;obtain⟨k,hk,rfl⟩:=A1k.1 hM;obtain⟨r0,hr0,rfl⟩:=A1k.1 hk;refine q _ _ (a0c hp _) (bits_le (Nat.max_lt.2 ⟨(hok r0 hr0).x,(hok r0 hr0).z⟩)) fun r hr=>?_;have h1:=hall _ (A1k.2 ⟨_,A1k.2 ⟨r,hr,rfl⟩,rfl⟩);have h2:=bits_lt (max r.x r.z);have h3:=A0w (show 0<2 by decide) (show A1p ((max r.x r.z:Nat):Int)<=A1p ((max r0.x r0.z:Nat):Int) by omega);omega
include a6w a1f in theorem ok_places (F:Fun K "places" "places" c5k f fd):a2k P w K mg base CX0 2 f fd ["number"] (sp_places K):=by
 refine F.ok sc_places (by fail"ln") ?_;fail"fi";obtain⟨n,rfl,hn,q⟩:=h;refine⟨_,(a0m (a0x (a8q (sc:=a0f c5k) rfl (by fail"k5") (by show ("k":Str)∉(["number"]:List Str);decide +kernel) (by show (".0":Str)∉(["number"]:List Str);decide +kernel) sc_places.nd rfl (b5y rfl a6w (a0a (pe_bm0 B1f A8x A8y b9p (pv 0)) a0j)) (fun _ _ _ _=>(d6q (a1b a8r (a0y a1f hr a0u (a0a (pv 1) (a0a (pv 0) a0j))) a0k (a1j _)))) (fun _ _ _ _=>(pv 0))))),?_⟩;fail"st";fail"go";have hb:A1p (n:Int)<=100:=bits_le hn;refine b3v (n:=A1p (n:Int)) (by omega) (fun P h=>?_) (fun i ys H'=>ys=vn (plc n i)/\H'=H) ⟨rfl,rfl⟩ ?_ ?_ ?_
 ·fail"go";exact h
 ·rintro i ys H' ⟨rfl,rfl⟩;unfold vn;rw[A0c,d7a];exact cnt_le _ _
 ·rintro i ys H' hi ⟨rfl,rfl⟩;fail"go";refine⟨n,i,rfl,?_⟩;fail"go";refine b4m (fun c=>?_) (fun c=>?_)
  ·have e:n.testBit i=true:=by
    revert c;unfold bI;cases n.testBit i<;>decide
   fail"go";refine⟨?_,rfl⟩;rw[plc,if_pos e];unfold vn;rw[A1b];rfl
  ·have e:n.testBit i=false:=by
    revert c;unfold bI;cases n.testBit i<;>decide
   refine⟨?_,rfl⟩;rw[plc,e];rfl
 ·rintro ys H' ⟨rfl,rfl⟩;exact q
include a7e a7d a8d in theorem d1r (F:Fun K "goes_beside" "goes_beside" b3w f fd):a2k P w K mg base CX0 2 f fd ["one","other"] (b7m K):=by
 refine F.ok b7c (by fail"ln") ?_;fail"fi";obtain⟨a,b,r,t,rfl,ha,hb,q⟩:=h
 refine⟨_,(a0d (a1k 2 b7c.nd (a0t a3s (a0t a5h (a0v a0s (pv 0) (a1z a7e)) (a0v a0s (pv 1) (a1z a7d))) (a0t a5h (a0v a0s (pv 0) (a1z a7d)) (a0v a0s (pv 1) (a1z a7e)))))
   (a0m (a0x (b5w a8r (a0t a4n (a0y a8d hr a0u (a0a (pv 2) a0j)) a0k) a0k (a1j _))))),?_⟩
 fail"st";unfold Row.V at ha hb;fail"go";refine⟨_,rfl,?_⟩;fail"go";have e:(((pop (crs r t):Nat):Int)%2=0)=(pop (crs r t)%2=0):=by apply propext;omega
 show Q (.bl (decide (((pop (crs r t):Nat):Int)%2=0))) H;simp only[e];exact q
include a7e a7d a1p a8d a4y a3n in theorem ok_times (F:Fun K "times" "times" s_times f fd):a2k P w K mg base CX0 3 f fd ["one","other"] (sp_times K):=by
 refine F.ok b9q (by fail"ln") ?_;fail"fi";obtain⟨a,b,r,t,rfl,ha,hb,q1,q2⟩:=h
 refine⟨_,(a0d (a3t (b4g (b0h (a0y a3n hr a0u (a0a (pv 0) (a0a (pv 1) a0j))))) (a0m a4r) a1q)
   (a0d (a1k 2 b9q.nd (a0t a3s (a0v a0s (pv 0) (a1z a7e)) (a0v a0s (pv 1) (a1z a7e))))
   (a0d (a1k 3 b9q.nd (a0t a3s (a0v a0s (pv 0) (a1z a7d)) (a0v a0s (pv 1) (a1z a7d))))
   (a0d (a1k 4 b9q.nd (a0t a3v (a0t a3v (a0v a0s (pv 0) (a1z a1p)) (a0v a0s (pv 1) (a1z a1p))) (a0y a8d hr a0u (a0a (a0t a5h (a0v a0s (pv 0) (a1z a7e)) (a0v a0s (pv 1) (a1z a7d))) a0j))))
   (a0d (a1k 5 b9q.nd (a0t b7q (a0t a3v (a0t a3v (a0t op_mul a0k (pv 4)) (a0y a4y hr a0u (a0a (pv 0) a0j))) (a0y a4y hr a0u (a0a (pv 1) a0j))) (a0y a8d hr a0u (a0a (a0t a5h (pv 2) (pv 3)) a0j))))
   (a0m (a0x (a2h (a0a (a0t c5x (a0t a4n (pv 5) a0k) a0k) (a0a (pv 2) (a0a (pv 3) a0j))))))))))),?_⟩
 fail"st";fail"go";refine⟨a,b,r,t,rfl,ha,hb,?_⟩;fail"go";refine iteN (fun c=>?_) (fun c=>?_)
 ·exact(q2 c).elim
 have hs:a3d r t=false:=(a9m r t).2 c;unfold Row.V at ha hb;fail"go";refine⟨_,rfl,?_⟩;fail"go";refine⟨a,r,rfl,ha,?_⟩;fail"go";refine⟨b,t,rfl,hb,?_⟩;fail"go";refine⟨_,rfl,?_⟩;fail"go";rename_i p hp;have q3:=q1 hs p hp;unfold Row.V at q3;rw[<- tm_prog hs] at q3;exact q3
include b8w in theorem d4j (F:Fun K "product_of" "product_of" b5b f fd):a2k P w K mg base CX0 4 f fd ["rows"] (b9s K):=by
 refine F.ok a9c (by fail"ln") ?_;fail"fi";obtain⟨l,as,us,rfl,hl,hW,hz,hcom,q⟩:=h
 refine⟨_,(a0d (a1k 1 a9c.nd (a2h (a0a a0k (a0a a0k (a0a a0k a0j)))))
   (a0d (b0e A1y rfl (a5m (pv 0)) (a2a (i:=2) a9c.nd rfl (Or.inl rfl)) (a0m (a1k 1 a9c.nd (a0y b8w hr a0u (a0a (pv 1) (a0a (pv 2) a0j))))))
   (a0m (a0x (pv 1))))),?_⟩
 fail"st";fail"go";rename_i p0 hp0;refine b0d (fun P h=>⟨_,rfl,h⟩) (SqL.of (a0c hp0 _ _ _ hl)) (fun i σ H'=>∃(u:Option V) (c:Addr),σ=[some (.ref l),some (.ref c),u]/\a2f H H'/\H' c=some (.tup (pr (us.take i)).V)) ⟨none,p0,rfl,a0c hp0 _,a0b⟩ ?_ ?_ ?_
 ·rintro i σ H' _ ⟨u,c,_,s,_⟩;exact SqL.of (s _ _ hl)
 ·rintro i x σ H' hx ⟨u,c,rfl,s,hc⟩;obtain⟨a,ha,rfl⟩:=a6m hx;obtain⟨r,hr,hra⟩:=hW.get ha;fail"go";refine⟨c,a,pr (us.take i),r,rfl,SqT.of hc,SqT.of (Rt.same s hra),fun _ p hp=>?_,fun z=>(z ((a9m _ _).1 (hcom i r hr))).elim⟩;fail"go";refine⟨_,p,rfl,s.trans (a0c hp _),?_⟩;rw[pr_take hr];exact a0b
 ·rintro σ H' ⟨u,c,rfl,s,hc⟩;fail"go";rw[a1r,hW.len,A1h] at hc;exact q c H' s hc
include a7e a7d in theorem c7e (F:Fun K "signs_number" "signs_number" b2k f fd):a2k P w K mg base CX0 1 f fd ["row","n"] (b5j K):=by
 refine F.ok c9z (by fail"ln") ?_;fail"fi";obtain⟨a,n,r,rfl,ha,hx,hz,hn,q⟩:=h;refine⟨_,(a0m (a0x (a0t op_or (a0v a0s (pv 0) (a1z a7e)) (a0t a8g (a0v a0s (pv 0) (a1z a7d)) (pv 1))))),?_⟩;fail"st";unfold Row.V at ha;rw[<- or_sn hx] at q;fail"go";refine st_i ⟨by omega,by omega,by rw[A9p];exact B3n hz (by decide)⟩ ?_;rw[A3p,show (r.z:Int)*2^n=((r.z*2^n:Nat):Int) from by push_cast;rfl];fail"go";exact q
include a1p T_N b1v k_Span c6a c6h b1k a5q in theorem ok_made_of (F:Fun K "made_of" "made_of" b5n f fd):a2k P w K mg base CX0 5 f fd ["rows","row"] (d3a K):=by
 refine F.ok a7g (by fail"ln") ?_;fail"fi";obtain⟨l,a,as,rs,o,rfl,hl,hW,hz,ha,hok,oko,hcom,q⟩:=h
 refine⟨_,(a0d (b2w (i:=2) a7g.nd rfl (Or.inr rfl) (a0y c6a hr a0u (a0a (a0t op_cat (pv 0) (a8e (a0a (pv 1) a0j))) a0j)))
   (a0d (a1k 3 a7g.nd (c2q b1v hr a0u (b4c k_Span hr a0u (a0a (a8q (sc:=a0f b5n) rfl (by fail"k5") (by show ("other":Str)∉(["rows","row","width","parts","numbers","product"]:List Str);decide +kernel) (by show (".0":Str)∉(["rows","row","width","parts","numbers","product"]:List Str);decide +kernel) a7g.nd rfl (a5m (pv 0)) (fun _ _ _ _=>a8v) (fun _ _ _ _=>(a0y a5q hr a0u (a0a (pv 0) (a0a (pv 3) a0j))))) a0j)) (a0a (a0y a5q hr a0u (a0a (pv 1) (a0a (pv 2) a0j))) a0j)))
   (a0d (a3t (a1b op_isN (pv 3) c3n (a1j _)) (a0m (a0x c3n)) a1q)
   (a0d (a1k 4 a7g.nd (a0y c6h hr a0u (a0a (pv 3) a0j)))
   (a0d (a1k 5 a7g.nd (a0y b1k hr a0u (a0a (a8q (sc:=a0f b5n) rfl (by fail"k5") (by show ("k":Str)∉(["rows","row","width","parts","numbers","product"]:List Str);decide +kernel) (by show (".0":Str)∉(["rows","row","width","parts","numbers","product"]:List Str);decide +kernel) a7g.nd rfl (a5m (pv 4)) (fun _ _ _ _=>a8v) (fun _ _ _ _=>(a0v (ix_listK (K:=K) rfl) (pv 1) (pv 0)))) a0j)))
   (a0m (a0x (a2h (a0a (pv 4) (a0a (a0t a3s (a0v a0s (pv 5) (a1z a1p)) (a0v a0s (pv 1) (a1z a1p))) a0j)))))))))),?_⟩
 fail"st";fail"go";rename_i p1 hp1 p2 hp2;have S2:=(a0c hp1 (.lst [.ref a])).trans (a0c hp2 (.lst (refs as++[.ref a])));have f2:(upd (upd H p1 (.lst [.ref a])) p2 (.lst (refs as++[.ref a]))) p2=some (.lst (refs (as++[a]))):=by rw[a0b,a7a]
 generalize upd (upd H p1 (.lst [.ref a])) p2 (.lst (refs as++[.ref a]))=G2 at S2 f2 ⊢;have hW2:a4a (Rt K G2) as rs:=hW.mono fun a d x=>Rt.same S2 x;have lrs:as.length=rs.length:=hW.len;refine⟨p2,as++[a],rs++[o],rfl,f2,hW2.snoc (S2 _ _ ha),by rw[A0s];show _+1<=_;omega,by rw[A0s];show 0<_+1;omega,fun r hr=>?_,fun wd H3 s3 hw hwx=>?_⟩
 ·rcases A1q.1 hr with hr|hr
  ·exact hok r hr
  ·rw[A0t.1 hr];exact oko
 have hwr:∀r∈rs,r.x<2^wd/\r.z<2^wd:=fun r hr=>hwx r (A6a _ hr);have hwo:=hwx o (by simp);have S3:=S2.trans s3;have l3:=S3 _ _ hl;have W3:a4a (Rt K H3) as rs:=hW.mono fun a d x=>Rt.same S3 x;fail"go";refine b3z (fun P h=>⟨_,rfl,h⟩) (SqL.of l3) (fun i ys H'=>H'=H3/\ys=vn ((rs.take i).map fun r=>r.x^^^r.z*2^wd)) (by rw[a1r];omega) ⟨rfl,rfl⟩ ?_ ?_ ?_ ?_
 ·rintro i ys H' ⟨_,rfl⟩;rw[c8d,A0c,A0u];omega
 ·rintro i ys H' ⟨rfl,_⟩;exact SqL.of l3
 ·rintro i x ys H' hx ⟨rfl,rfl⟩;obtain⟨b,hb,rfl⟩:=a6m hx;obtain⟨r,hr,hrb⟩:=W3.get hb;have hrm:=List.mem_of_getElem? hr;fail"go";refine⟨b,wd,r,rfl,SqT.of hrb,(hwr r hrm).1,(hok r hrm).z,hw,rfl,?_⟩;rw[a1u hr,A1b,<- vn_app];rfl
 ·rintro ys H' ⟨rfl,rfl⟩ p4 hp4;rw[a1r,hW.len,A1h];generalize hus:(rs.map fun r=>r.x^^^r.z*2^wd)=us;have lus:us.length=rs.length:=by rw[<- hus,A0c]
  have S4:=S3.trans (a0c hp4 (.lst (vn us)));have f4:(upd H' p4 (.lst (vn us))) p4=some (.lst (vn us)):=a0b;generalize upd H' p4 (.lst (vn us))=H4 at S4 f4 ⊢;fail"go";intro xo dx nx ndx nxd;refine⟨xo,p4,dx,us,rfl,a0b,?_,by omega,fun H5 l5 ss oth hl5 hS=>⟨rfl,?_⟩⟩
  ·rw[a0q (a0p f4 nx),a0q (a0p f4 ndx)];exact f4
  have S5:a2f H4 H5:=fun c ob e=>oth c ob (a0p e nx) (by rw[a0q (a0p e nx),a0q (a0p e ndx)];exact e);have S05:=S4.trans S5;obtain⟨dx5,as5,hp5,_,_,okS,_⟩:=id hS;refine a4q hp5 (d4u _ _ (by decide +kernel) (by decide +kernel)) ?_;fail"go";refine⟨a,wd,o,rfl,SqT.of (S05 _ _ ha),hwo.1,oko.z,hw,?_⟩;fail"go";refine⟨xo,l5,o.x^^^o.z*2^wd,us,ss,rfl,hS,by omega,fun H6 s6=>⟨fun h0=>?_,fun hne=>?_⟩⟩
  ·obtain⟨g1,g2,_⟩:=okS.left (o.x^^^o.z*2^wd);have hsel:=g2 h0;generalize (red ss (o.x^^^o.z*2^wd) 0).2=m at g1 hsel ⊢;have S6:=S05.trans s6;rw[lus] at g1;rw[<- hus] at hsel;have hL:Lsel rs m o:=(d6k (fun s hs=>(hwr s hs).1) hwo.1 m).1 hsel;have hpl:pls m=plc m rs.length:=(plc_more (bits_lt m) (bits_le g1)).symm;have W6:a4a (Rt K H6) as rs:=hW.mono fun a d x=>Rt.same S6 x;have l6:SqL K H6 l (refs as):=SqL.of (S6 _ _ hl);fail"go";refine⟨rfl,_,rfl,b4m (fun c=>by cases c) (fun _=>?_)⟩;fail"go";refine⟨m,rfl,A0g g1 (A0w (by decide) (by omega)),fun p7 hp7=>?_⟩;rw[hpl];have S7:=S6.trans (a0c hp7 (.lst (vn (plc m rs.length))));have f7:(upd H6 p7 (.lst (vn (plc m rs.length)))) p7=some (.lst (vn (plc m rs.length))):=a0b;generalize upd H6 p7 (.lst (vn (plc m rs.length)))=H7 at S7 f7 ⊢;have kl:∀k∈plc m rs.length,k<rs.length:=plc_lt m rs.length;have lk:(plc m rs.length).length<=40:=by rw[d7a];exact A0y (cnt_le _ _) (by omega)
   have l7:SqL K H7 l (refs as):=SqL.of (S7 _ _ hl);have W7:a4a (Rt K H7) as rs:=hW.mono fun a d x=>Rt.same S7 x;generalize hks:plc m rs.length=ks at f7 kl lk ⊢;fail"go";refine b3z (fun P h=>⟨_,rfl,h⟩) (SqL.of f7) (fun i ys H'=>H'=H7/\∃bs,ys=refs bs/\a4a (Rt K H7) bs (pk rs (ks.take i))) (by rw[c8d];omega) ⟨rfl,[],rfl,.nil⟩ ?_ ?_ ?_ ?_
   ·rintro i ys H' ⟨_,bs,rfl,e⟩;rw[a1r,e.len];unfold pk;rw[A0c,A0u];omega
   ·rintro i ys H' ⟨rfl,_⟩;exact SqL.of f7
   ·rintro i x ys H' hx ⟨rfl,bs,rfl,e⟩;obtain⟨k,rfl,hk⟩:=vn_at hx;have hkl:=kl k (List.mem_of_getElem? hk);have hkr:rs[k]? = some rs[k]:=List.getElem?_eq_getElem hkl;obtain⟨b,hb,hbr⟩:=W7.get' hkr;fail"go";refine c9x l7 (c2m (refs_at hb)) ?_;refine⟨rfl,bs++[b],a7a _ _,?_⟩
    have e2:pk rs (ks.take (i+1))=pk rs (ks.take i)++[rs[k]]:=by
     rw[a1u hk,pk_app];show _++[rs.getD k ⟨0,0,0⟩]=_;rw[List.getD_eq_getElem?_getD,hkr];rfl
    rw[e2];exact e.snoc hbr
   ·rintro ys H' ⟨rfl,bs,rfl,e⟩ p8 hp8;rw[c8d,A1h] at e;have S8:=S7.trans (a0c hp8 (.lst (refs bs)));have f8:(upd H' p8 (.lst (refs bs))) p8=some (.lst (refs bs)):=a0b;have f78:=a0c hp8 (.lst (refs bs)) _ _ f7;have e8:=e.mono fun a d (x:Rt K H' a d)=>Rt.same (a0c hp8 (.lst (refs bs))) x;generalize upd H' p8 (.lst (refs bs))=H8 at S8 f8 f78 e8 ⊢;fail"go";have pkm:=pk_mem kl;refine⟨p8,bs,pk rs ks,rfl,f8,e8,by rw[e.len];unfold pk;rw[A0c];omega,fun i r hr=>pr_com' hcom (fun u hu=>pkm u (A6b hu)) (pkm r (List.mem_of_getElem? hr)),fun p9 H9 s9 hp9=>?_⟩;have S9:=S8.trans s9;have ha9:SqT K H9 a [.int (o.m:Nat),.int (o.x:Nat),.int (o.z:Nat)]:=SqT.of (S9 _ _ ha);have hp9':SqT K H9 p9 [.int ((pr (pk rs ks)).m:Nat),.int ((pr (pk rs ks)).x:Nat),.int ((pr (pk rs ks)).z:Nat)]:=SqT.of hp9;fail"go";rename_i p10 hp10;have S10:=S9.trans (a0c hp10 (.tup [.ref p7,.int (((pr (pk rs ks)).m^^^o.m:Nat):Int)]));refine(q _ S10).2 m p10 p7 g1 hL ?_ ?_
    ·rw[hks];exact a0c hp10 _ _ _ (s9 _ _ f78)
    ·rw[hks];exact a0b
  ·obtain⟨_,_,g3⟩:=okS.left (o.x^^^o.z*2^wd);have hno:=g3 hne;fail"go";refine⟨rfl,_,rfl,b4m (fun _=>?_) (fun c=>(c rfl).elim)⟩;fail"go";refine(q _ (S05.trans s6)).1 fun m hL=>hno m ?_;rw[<- hus];exact(d6k (fun s hs=>(hwr s hs).1) hwo.1 m).2 hL
include T_M c0e in theorem b7t (F:Fun K "sure_value" "Signs.sure_value" a6s f fd):a2k P w K mg base CX0 6 f fd ["self","row"] (a9w K a5b):=by
 refine F.ok b0k (by fail"ln") ?_;fail"fi";obtain⟨x,w,n,k,ws,rs,r,rfl,⟨dx,a,xs,hx,ha,hR⟩,jt,hn,hw,ok,hm0,q⟩:=h;have kp:=jt.kp;obtain⟨as,rfl,hA⟩:=hR.refs;have p40:=A0w (show 0<2 by decide) (show n<=40 by omega)
 refine⟨_,(a0d (a1k 2 b0k.nd (a0y c0e hr a0u (a0a (a2g (pv 0) rfl) (a0a (pv 1) a0j))))
   (a0m (a0x (c5p (a1b op_isN (pv 2) c3n (a1j _)) c3n (a0v a0s (pv 2) a0k))))),?_⟩
 fail"st";fail"go";refine a1m hx (T_M.cl .sg) (T_M.n_kept .sg) rfl ?_;fail"go";refine⟨a,w,as,rs,r,rfl,ha,hA,by rw[hA.len,kp.len];omega,hw,fun s hs=>?_,?_,kp.com,fun H1 S1=>⟨fun hno=>?_,fun m p l hm hL hl hp=>?_⟩⟩
 ·have:=kp.ok s hs;exact⟨this.m,A0g this.x p40,A0g this.z p40⟩
 ·exact⟨ok.m,A0g ok.x p40,A0g ok.z p40⟩
 ·rw[jt.jfree ok hno] at q;fail"go";refine⟨rfl,_,rfl,b4m (fun _=>?_) (fun c=>(c rfl).elim)⟩;fail"go";exact q _ S1
 ·have hp':=SqT.of (K:=K) hp;rw[jt.jsure ok hm hL] at q;fail"go";refine⟨rfl,_,rfl,b4m (fun c=>by cases c) (fun _=>?_)⟩;fail"go";rw[hm0,A1c];exact q _ S1
include T_M a8k in theorem c9e (F:Fun K "settle" "Exact.settle" b2b f fd):a2k P w K mg base CX0 5 f fd ["self","row","value"] (b5g K a5b):=by
 refine F.ok c7r (by fail"ln") ?_;fail"fi";obtain⟨x,w,a,n,v,ws,r,rfl,⟨dx,hx⟩,hW,wn,hn,hw,ok,q⟩:=h;have hl:=wn.len hn;refine⟨_,(a0m (a9a (pv 0) (a0y a8k hr a0u (a0a (a2g (pv 0) rfl) (a0a (pv 1) (a0a (pv 2) a0j)))) rfl)),?_⟩;fail"st";fail"go";refine a1m hx (T_M.cl .ex) (T_M.n_amounts .ex) rfl ?_;fail"go";refine⟨a,w,v,ws,r,rfl,hW,wn.nd,by omega,hw,fun p H1 hS hp hW1=>?_⟩;have hx1:=hS _ _ hx;fail"go";refine a5n hx1 (T_M.cl .ex) (T_M.n_amounts .ex) (by simp) ?_;have hB:But x H1 (upd H1 x (.ins (a5b .ex) dx [("n",.int (n:Int)),("amounts",.ref p)])):=But.upd;exact q p _ (fun c o hc e=>hB _ _ hc (hS _ _ e)) ⟨dx,a0b⟩ (butI_wh hB hx1 hW1)
include T_M a7e a7d a3n b8w in theorem c9g (F:Fun K "settle" "Signs.settle" a4d f fd):a2k P w K mg base CX0 4 f fd ["self","row","value"] (b5m K a5b):=by
 refine F.ok a4z (by fail"ln") ?_;fail"fi";obtain⟨x,w,n,v,rs,r,c,cs,rfl,⟨dx,a,xs,hx,ha,hR⟩,kp,hn,hw,ok,hcs,q⟩:=h;obtain⟨as,rfl,hA⟩:=hR.refs;have las:as.length=n:=hA.len.trans kp.len
 have bes:∀s:Row,decide (pop (crs s r)%2=0) = !a3d s r:=fun s=>by
  have:=a9m s r;unfold crs
  cases e:a3d s r with
  | false=>exact decide_eq_true (this.1 e)
  | true=>exact decide_eq_false fun z=>by rw[this.2 z] at e;cases e
 refine⟨_,(a0d (ps_setC (i:=3) rfl (Or.inl rfl) (sc:=a0f a4d) rfl (by fail"k5") (by show ("other":Str)∉(["self","row","value","staying","crossing","mended"]:List Str);decide +kernel) (by show (".0":Str)∉(["self","row","value","staying","crossing","mended"]:List Str);decide +kernel) a4z.nd rfl (a5m (a2g (pv 0) rfl)) (fun _ _ _ _=>(d6q (b0h (a0y a3n hr a0u (a0a (pv 0) (a0a (pv 2) a0j)))))) (fun _ _ _ _=>(pv 0)))
   (a0d (b2w (i:=4) a4z.nd rfl (Or.inr rfl) (a8q (sc:=a0f a4d) rfl (by fail"k5") (by show ("other":Str)∉(["self","row","value","staying","crossing","mended"]:List Str);decide +kernel) (by show (".0":Str)∉(["self","row","value","staying","crossing","mended"]:List Str);decide +kernel) a4z.nd rfl (a5m (a2g (pv 0) rfl)) (fun _ _ _ _=>(d6q (b4g (b0h (a0y a3n hr a0u (a0a (pv 0) (a0a (pv 2) a0j))))))) (fun _ _ _ _=>(pv 0))))
   (a0d (ps_setC (i:=5) rfl (Or.inl rfl) (sc:=a0f a4d) rfl (by fail"k5") (by show ("other":Str)∉(["self","row","value","staying","crossing","mended"]:List Str);decide +kernel) (by show (".0":Str)∉(["self","row","value","staying","crossing","mended"]:List Str);decide +kernel) a4z.nd rfl (a5m (c6e sl_list (pv 4) (c6w a0k) c8c)) (fun _ _ _ _=>a8v) (fun _ _ _ _=>(a0y b8w hr a0u (a0a (a0v (ix_listK (K:=K) rfl) (pv 5) a0k) (a0a (pv 0) a0j)))))
   (a0m (a9a (pv 0) (a0t op_cat (a0t op_cat (pv 3) (pv 5)) (a8e (a0a (a2h (a0a (pv 2) (a0a (a0v a0s (pv 1) (a1z a7e)) (a0a (a0v a0s (pv 1) (a1z a7d)) a0j)))) a0j))) rfl))))),?_⟩
 fail"st";fail"go";refine st_cqE ?_;fail"go";refine a1m hx (T_M.cl .sg) (T_M.n_kept .sg) rfl ?_;refine c9f (SqL.of ha) (fun i ys H'=>H'=H/\∃bs,ys=refs bs/\a4a (Rt K H) bs ((rs.take i).filter fun s=>!a3d s r)) (by rw[a1r];omega) ⟨rfl,[],rfl,.nil⟩ ?_ ?_ ?_ ?_
 ·rintro i ys H' ⟨_,bs,rfl,e⟩;rw[a1r,e.len];exact A0y (A4n _ _) (by rw[A0u];omega)
 ·rintro i ys H' ⟨rfl,_⟩;exact SqL.of ha
 ·rintro i x1 ys H' hget ⟨rfl,bs,rfl,e⟩;obtain⟨b,hb,rfl⟩:=a6m hget;obtain⟨s1,hs1,hsb⟩:=hA.get hb;fail"go";refine⟨b,w,s1,r,rfl,SqT.of hsb,SqT.of hw,?_⟩;rw[bes,a1u hs1,A9s];refine⟨_,rfl,iteB (fun z=>?_) (fun z=>?_)⟩
  ·fail"go";refine⟨rfl,bs++[b],a7a _ _,?_⟩;rw[show [s1].filter (fun s=>!a3d s r)=[s1] from by simp only[A8a,z];rfl];exact e.snoc hsb
  ·refine⟨rfl,bs,rfl,?_⟩;rw[show [s1].filter (fun s=>!a3d s r)=[] from by simp only[A8a,z];rfl,A3v];exact e
 ·rintro ys H' ⟨rfl,bs,rfl,eB⟩ p1 hp1;rw[a1r,hA.len,A1h] at eB;have S1:a2f H' (upd H' p1 (.lst (refs bs))):=a0c hp1 _;have f1:(upd H' p1 (.lst (refs bs))) p1=some (.lst (refs bs)):=a0b;generalize upd H' p1 (.lst (refs bs))=G at S1 f1 ⊢;fail"go";refine st_cqE ?_;fail"go";refine a1m (S1 _ _ hx) (T_M.cl .sg) (T_M.n_kept .sg) rfl ?_;refine c9f (SqL.of (S1 _ _ ha)) (fun i ys H2=>H2=G/\∃ms,ys=refs ms/\a4a (Rt K G) ms ((rs.take i).filter fun s=>a3d s r)) (by rw[a1r];omega) ⟨rfl,[],rfl,.nil⟩ ?_ ?_ ?_ ?_
  ·rintro i ys H2 ⟨_,ms,rfl,e⟩;rw[a1r,e.len];exact A0y (A4n _ _) (by rw[A0u];omega)
  ·rintro i ys H2 ⟨rfl,_⟩;exact SqL.of (S1 _ _ ha)
  ·rintro i x1 ys H2 hget ⟨rfl,ms,rfl,e⟩;obtain⟨b,hb,rfl⟩:=a6m hget;obtain⟨s1,hs1,hsb⟩:=hA.get hb;fail"go";refine⟨b,w,s1,r,rfl,SqT.of (S1 _ _ hsb),SqT.of (S1 _ _ hw),?_⟩;rw[bes,a1u hs1,A9s];fail"go";refine iteB (fun z=>?_) (fun z=>?_)
   ·have z1:a3d s1 r=true:=by simpa using z
    fail"go";refine⟨rfl,ms++[b],a7a _ _,?_⟩;rw[show [s1].filter (fun s=>a3d s r)=[s1] from by simp only[A8a,z1];rfl];exact e.snoc (S1 _ _ hsb)
   ·have z1:a3d s1 r=false:=by simpa using z
    refine⟨rfl,ms,rfl,?_⟩;rw[show [s1].filter (fun s=>a3d s r)=[] from by simp only[A8a,z1];rfl,A3v];exact e
  ·rintro ys H2 ⟨rfl,ms,rfl,eM⟩ p2 hp2;rw[a1r,hA.len,A1h,hcs] at eM
   cases eM with
   | cons hm0 eM2=>
   rename_i m0 ms;have S2:a2f H2 (upd H2 p2 (.lst (refs (m0::ms)))):=a0c hp2 _;have f2:(upd H2 p2 (.lst (refs (m0::ms)))) p2=some (.lst (refs (m0::ms))):=a0b;generalize upd H2 p2 (.lst (refs (m0::ms)))=G2 at S2 f2 ⊢;fail"go";refine st_cqE ?_;fail"go";rename_i p3 hp3;rw[show cutV (refs (m0::ms)) (some 1) none=refs ms from cut1 _ _];have S3:=S2.trans (a0c hp3 (.lst (refs ms)));have f3:(upd G2 p3 (.lst (refs ms))) p3=some (.lst (refs ms)):=a0b;have f23:=a0c hp3 (.lst (refs ms)) _ _ f2;generalize upd G2 p3 (.lst (refs ms))=G3 at S3 f3 f23 ⊢
   have mcs:∀s∈c::cs,s∈rs:=fun s hs=>by
    rw[<- hcs,A4z] at hs;exact hs.1
   have lms:ms.length=cs.length:=eM2.len
   have lcs:cs.length<=n:=by
    have:=A4n (fun s=>a3d s r) rs;rw[hcs,A1a,kp.len] at this;omega
   refine c9f (SqL.of f3) (fun i ys H4=>a2f G3 H4/\∃ts,ys=refs ts/\a4a (Rt K H4) ts ((cs.take i).map (tm c))) (by rw[a1r];omega) ⟨a2f.refl _,[],rfl,.nil⟩ ?_ ?_ ?_ ?_
   ·rintro i ys H4 ⟨_,ts,rfl,e⟩;rw[a1r,e.len,A0c,A0u];omega
   ·rintro i ys H4 ⟨s4,_⟩;exact SqL.of (s4 _ _ f3)
   ·rintro i x1 ys H4 hget ⟨s4,ts,rfl,e⟩;obtain⟨b,hb,rfl⟩:=a6m hget;obtain⟨s1,hs1,hsb⟩:=eM2.get hb;have S4:=S3.trans s4;refine d2s ?_;fail"go";refine c9x (SqL.of (s4 _ _ f23)) (c2m (j:=0) (refs_at (as:=m0::ms) (i:=0) (a:=m0) rfl)) ?_;fail"go";refine⟨m0,b,c,s1,rfl,SqT.of (S4 _ _ hm0),SqT.of (S4 _ _ hsb),fun _ p hp=>?_,fun z=>(z ((a9m _ _).1 (kp.com _ (mcs c A0k) _ (mcs s1 (A0d _ (List.mem_of_getElem? hs1)))))).elim⟩;fail"go";refine⟨s4.trans (a0c hp _),ts++[p],a7a _ _,?_⟩;rw[a1u hs1,A1b];exact(e.mono fun a d (x:Rt K H4 a d)=>Rt.same (a0c hp _) x).snoc a0b
   ·rintro ys H4 ⟨s4,ts,rfl,eT⟩ p4 hp4;rw[a1r,lms,A1h] at eT;have S5:=(S1.trans S3).trans (s4.trans (a0c hp4 (.lst (refs ts))));have f5:(upd H4 p4 (.lst (refs ts))) p4=some (.lst (refs ts)):=a0b;have f15:=(S3.trans (s4.trans (a0c hp4 (.lst (refs ts))))) _ _ f1;have eT5:=eT.mono fun a d (x:Rt K H4 a d)=>Rt.same (a0c hp4 (.lst (refs ts))) x;generalize upd H4 p4 (.lst (refs ts))=G5 at S5 f5 f15 eT5 ⊢;have hw5:SqT K G5 w [.int (r.m:Nat),.int (r.x:Nat),.int (r.z:Nat)]:=SqT.of (S5 _ _ hw);fail"go";have lbs:bs.length<=n:=by rw[eB.len];exact A0y (A4n _ _) (by rw[kp.len];omega)
    have lts:ts.length<=n:=by rw[eT.len,A0c];exact lcs
    refine st_cat f15 f5 (by rw[a1r,a1r];omega) fun p6 hp6=>?_;rw[show refs bs++refs ts=refs (bs++ts) from by unfold refs;rw[A1b]]
    have e6:a4a (Rt K (upd G5 p6 (.lst (refs (bs++ts))))) (bs++ts) (rs.filter (fun s=>!a3d s r)++cs.map (tm c)):=
     (eB.mono fun a d (x:Rt K H' a d)=>Rt.same (S5.trans (a0c hp6 _)) x).app (eT5.mono fun a d (x:Rt K G5 a d)=>Rt.same (a0c hp6 _) x)
    have S6:=S5.trans (a0c hp6 (.lst (refs (bs++ts))));have f6:(upd G5 p6 (.lst (refs (bs++ts)))) p6=some (.lst (refs (bs++ts))):=a0b;have hw6:=(a0c hp6 (.lst (refs (bs++ts)))).tup hw5;generalize upd G5 p6 (.lst (refs (bs++ts)))=G6 at e6 S6 f6 hw6 ⊢;fail"go";rename_i p7 hp7 p8 hp8 p9 hp9;have S8:=(a0c hp7 (.tup [.int (v:Int),.int (r.x:Int),.int (r.z:Int)])).trans (a0c hp8 (.lst [.ref p7]));have f7:=a0c hp8 (.lst [.ref p7]) _ _ (a0b (H:=G6) (a:=p7) (o:=.tup [.int (v:Int),.int (r.x:Int),.int (r.z:Int)]));rw[show refs (bs++ts)++[V.ref p7]=refs (bs++ts++[p7]) from a7a _ _];have e9:=((e6.mono fun a d (x:Rt K G6 a d)=>Rt.same S8 x).snoc (a:=p7) (b:=(⟨v,r.x,r.z⟩:Row)) f7);generalize upd (upd G6 p7 (.tup [.int (v:Int),.int (r.x:Int),.int (r.z:Int)])) p8 (.lst [.ref p7])=G8 at S8 e9 hp9 ⊢;have S9:=(S6.trans S8).trans (a0c hp9 (.lst (refs (bs++ts++[p7]))));have e10:=e9.mono fun a d (x:Rt K G8 a d)=>Rt.same (a0c hp9 (.lst (refs (bs++ts++[p7])))) x;have f9:(upd G8 p9 (.lst (refs (bs++ts++[p7])))) p9=some (.lst (refs (bs++ts++[p7]))):=a0b;generalize upd G8 p9 (.lst (refs (bs++ts++[p7])))=G9 at S9 e10 f9 ⊢;have k1:=S9 _ _ hx;refine a5n k1 (T_M.cl .sg) (T_M.n_kept .sg) (by simp) ?_;have hB:But x G9 (upd G9 x (.ins (a5b .sg) dx [("n",.int (n:Int)),("kept",.ref p9)])):=But.upd;refine q _ (fun c o hc e=>hB _ _ hc (S9 _ _ e)) ⟨dx,p9,_,a0b,hB _ _ (fun z=>by rw[z,k1] at f9;cases f9) f9,rl_of ?_⟩;exact e10.mono fun a d (x:Rt K G9 a d)=>hB _ _ (fun z=>by have x':G9 a=some (.tup d.V):=x;rw[z,k1] at x';cases x') x
theorem ok_fits (F:Fun K "fits" "fits" s_fits f fd):a2k P w K mg base CX0 1 f fd ["number","n"] (sp_fits K):=by
 refine F.ok sc_fits (by fail"ln") ?_;fail"fi";obtain⟨x,n,rfl,hn,q⟩:=h;refine⟨_,(a0m (a0x (pe_and (b5w op_ge (pv 0) a0k (a1j _)) (pe_one (b5w op_lt (pv 0) (a0t a8g a0k (pv 1)) (a1j _)))))),?_⟩;fail"go";refine b4m (fun c=>?_) (fun c=>?_)
 ·fail"go"
  have e:decide (0<=x/\x<((2^n:Nat):Int))=decide (x<((2^n:Nat):Int)):=by
   by_cases h:x<((2^n:Nat):Int)
   ·rw[decide_eq_true h,decide_eq_true ⟨c,h⟩]
   ·rw[decide_eq_false h,decide_eq_false fun z=>h z.2]
  rw[e] at q;exact q
 ·rw[decide_eq_false fun z=>c z.1] at q;exact q
include a1x a1t b4n a7e a7d a1p d0x b2m c_fits in theorem d0w (F:Fun K "checked_row" "checked_row" a9h f fd):a2k P w K mg base CX0 2 f fd ["thing","n"] (b7p K):=by
 refine F.ok b7e (by fail"ln") ?_;fail"fi";obtain⟨v,n,rfl,hn,hq⟩:=h
 refine⟨_,(a0d (a3t (PW.pt (d6c (b4g (b0h (d3k rfl a1x (pv 0) b2m c1k))) (c3h (a1b op_ne (a3e a9v rfl b4n A5f (a0a (pv 0) a0j)) a0k (a1j _))))) (a0m a4r) a1q)
   (a0d (a3t (b4g (b0h (a3e (c6z rfl) rfl d0x d4c (a0a (a8q (sc:=a0f a9h) rfl (by fail"k5") (by show ("part":Str)∉(["thing","n"]:List Str);decide +kernel) (by show (".0":Str)∉(["thing","n"]:List Str);decide +kernel) b7e.nd rfl (pi_tup (pv 0)) (fun _ _ _ _=>a8v) (fun _ _ _ _=>(a0y a1t hr a0u (a0a (pv 0) a0j)))) a0j)))) (a0m a4r) a1q)
   (a0d (a3t (PW.pt (pw_and (a1b op_ne (a0v a0s (pv 0) (a1z a1p)) a0k (a1j _)) (d3x (a1b op_ne (a0v a0s (pv 0) (a1z a1p)) a0k (a1j _))))) (a0m a4r) a1q)
   (a0d (a3t (PW.pt (d6c (b4g (b0h (a0y c_fits hr a0u (a0a (a0v a0s (pv 0) (a1z a7e)) (a0a (pv 1) a0j))))) (c3h (b4g (b0h (a0y c_fits hr a0u (a0a (a0v a0s (pv 0) (a1z a7d)) (a0a (pv 1) a0j)))))))) (a0m a4r) a1q)
   (a0m (a0x (pv 0))))))),?_⟩
 fail"st";fail"go"
 rcases hq with ⟨a,⟨m,xx,zz⟩,rfl,ha,ok,hQ⟩|hF
 rotate_left
 ·exact hF.elim
 unfold Row.V at ha;refine c0t (b8x.tup ha) a3y ?_;have ha':SqT K H a [.int (m:Int),.int (xx:Int),.int (zz:Int)]:=SqT.of ha;fail"go";refine iteN (fun c=>(c rfl).elim) (fun _=>?_);fail"go";refine d0d (fun P h=>⟨_,rfl,h⟩) ha' (fun i ys H'=>H'=H/\ys=([true,true,true].take i).map V.bl) (show (3:Nat)<=1000 by decide) ⟨rfl,rfl⟩ ?_ ?_ ?_ ?_
 ·rintro i ys H' ⟨rfl,rfl⟩;rw[A0c,A0u];omega
 ·rintro i ys H' ⟨rfl,rfl⟩;exact ha'
 ·rintro i x' ys H' hx ⟨rfl,rfl⟩;fail"go"
  rcases i with _|_|_|i
  ·cases hx;exact⟨_,true,rfl,WN.int _ _ _,rfl,rfl⟩
  ·cases hx;exact⟨_,true,rfl,WN.int _ _ _,rfl,rfl⟩
  ·cases hx;exact⟨_,true,rfl,WN.int _ _ _,rfl,rfl⟩
  ·simp at hx
 ·rintro ys H' ⟨rfl,rfl⟩ p hp;fail"go";refine st_all (bs:=[true,true,true]) (SqL.of a0b) ?_;rw[show [true,true,true].all id=true from rfl];fail"go";have h1:m<=1:=ok.1;have hx:((xx:Nat):Int)<((2^n:Nat):Int):=Int.ofNat_lt.2 ok.2;have hz:((zz:Nat):Int)<((2^n:Nat):Int):=Int.ofNat_lt.2 ok.3
  rcases (show m=0\/m=1 by omega) with rfl|rfl
  ·rw[show decide (((0:Nat):Int)=0)=true from rfl];fail"go";refine⟨(xx:Int),n,rfl,hn,?_⟩;fail"go";refine iteN (fun c=>?_) (fun c=>?_)
   ·exact(c ⟨A5j _,hx⟩).elim
   fail"go";refine⟨(zz:Int),n,rfl,hn,?_⟩;fail"go";refine iteN (fun c=>?_) (fun c=>?_)
   ·exact(c ⟨A5j _,hz⟩).elim
   fail"go";exact hQ _ (a0c hp _)
  ·rw[show decide (((1:Nat):Int)=0)=false from rfl];fail"go";rw[show decide (((1:Nat):Int)=1)=true from rfl];fail"go";refine⟨(xx:Int),n,rfl,hn,?_⟩;fail"go";refine iteN (fun c=>?_) (fun c=>?_)
   ·exact(c ⟨A5j _,hx⟩).elim
   fail"go";refine⟨(zz:Int),n,rfl,hn,?_⟩;fail"go";refine iteN (fun c=>?_) (fun c=>?_)
   ·exact(c ⟨A5j _,hz⟩).elim
   fail"go";exact hQ _ (a0c hp _)
include a7e a7d a8d in theorem ok_weight_of (F:Fun K "weight_of" "weight_of" b8m f fd):a2k P w K mg base CX0 2 f fd ["row"] (c3k K):=by
 refine F.ok sc_weight_of (by fail"ln") ?_;fail"fi";obtain⟨a,r,rfl,ha,q⟩:=h;refine⟨_,(a0m (a0x (a0y a8d hr a0u (a0a (a0t op_or (a0v a0s (pv 0) (a1z a7e)) (a0v a0s (pv 0) (a1z a7d))) a0j)))),?_⟩;fail"st";unfold Row.V at ha;fail"go";exact⟨_,rfl,q⟩
include a1p a9d b3n in theorem d3s (F:Fun K "check_look" "check_look" b4s f fd):a2k P w K mg base CX0 3 f fd ["row","n"] (b9z K):=by
 refine F.ok d6t (by fail"ln") ?_;fail"fi";obtain⟨v,n,rfl,hn,hb⟩:=h
 refine⟨_,(a0d (a2y (a0y a9d hr a0u (a0a (pv 0) (a0a (pv 1) a0j))))
   (a0m (a3t (PW.pt (d6c (a1b a8r (a0v a0s (pv 0) (a1z a1p)) a0k (a1j _)) (c3h (a1b a8r (a0y b3n hr a0u (a0a (pv 0) a0j)) a0k (a1j _))))) (a0m a4r) a1q))),?_⟩
 fail"st";fail"go"
 rcases hb with ⟨a,r,rfl,ha,ok,hm,hz,q⟩|hF
 ·refine⟨_,n,rfl,hn,.inl ⟨a,r,rfl,ha,ok,fun H1 S1=>?_⟩⟩;have ha1:=SqT.of (K:=K) (S1 _ _ ha);have ha2:=ha1;unfold Row.V at ha2;fail"go";refine b4m (fun c=>by exfalso;omega) (fun c=>?_);fail"go";refine⟨a,r,rfl,ha1,?_⟩;fail"go";refine b4m (fun c=>?_) (fun c=>?_)
  ·exact(hz (by
    have:pop (r.x|||r.z)=0:=by omega
    have h0:=pop_nil _ this
    exact⟨by have:=@Nat.left_le_or r.x r.z;omega,by have:=@Nat.right_le_or r.x r.z;omega⟩)).elim
  ·fail"go";exact q _ S1
 ·exact hF.elim
include h_lam in theorem d0r (F:Fun K "value_drawn" "value_drawn" b3u f fd):a2k P w K mg base CX0 4 f fd ["draw"] (b7j K b1a):=by
 refine F.ok d0q (by fail"ln") ?_;fail"fi";obtain⟨v,rfl,h⟩:=h;refine⟨_,(a0m (a0x (c5p (a1b op_isN (pv 0) c3n (a1j _)) a0k (a0t a5h (pe_callE h_lam hr (pv 0)) a0k)))),?_⟩;fail"go"
 rcases h with ⟨rfl,q⟩|⟨f,d,lb,bs,k,rfl,hf,hd,q⟩
 ·refine isN (b:=true) nn_t ?_;fail"go";exact q
 ·refine isN (b:=false) (nn_f _) ?_;fail"go";refine st_callE ?_;fail"go";refine⟨f,rfl,.inr ⟨d,lb,bs,k,rfl,hf,hd,fun H' hB hd'=>?_⟩⟩;have hb:=hd.bit;have q9:=q H' hB hd';generalize bs.getD k 0=b at hb q9 ⊢;fail"go"
  first
  | (rw[and1_int,show ((b:Nat):Int)%2=(b:Int) by omega];exact q9)
  | (have e:(bI (b.testBit 0):Int)=(b:Int):=by rcases A7e.1 hb with rfl|rfl<;>rfl
     rw[e];exact q9)
include T_M a8c b6j a4x a9n in theorem c7t (F:FunD K "look" "Machine.look" a4g f fd .none):a2k P w K mg base CX0 7 f fd ["self","row","draw"] (b4w K a5b b1a):=by
 refine F.ok b0x (by fail"ln") ?_;fail"fi";obtain⟨x,w,f,rfl,d,lb,n,k,kd,s,xx,zz,bs,hm,jt,hn,hw,hxx,hzz,hz,hf,hd,q⟩:=h;have wn:=jt.wn;have oo:(⟨0,xx,zz⟩:Row).Ok n:=⟨A1v _,hxx,hzz⟩
 refine⟨_,(a0d (a2y (a0y a4x hr a0u (a0a (pv 1) (a0a (a2g (pv 0) rfl) a0j))))
   (a0d (a1k 3 b0x.nd (c2q a8c hr a0u (pv 0) (a0a (pv 1) a0j)))
   (a0d (a3t (a1b op_notN (pv 3) c3n (a1j _)) (a0m (a0x (a2h (a0a (pv 3) (a0a pe_bl a0j))))) a1q)
   (a0d (a1k 4 b0x.nd (a0y a9n hr a0u (a0a (pv 2) a0j)))
   (a0d (a2y (c2q b6j hr a0u (pv 0) (a0a (pv 1) (a0a (pv 4) a0j))))
   (a0m (a0x (a2h (a0a (pv 4) (a0a pe_bl a0j)))))))))),?_⟩
 fail"st";fail"go"
 cases kd with
 | ex=>
  obtain⟨a,⟨dx,hx⟩,hW⟩:=id hm;refine a1m hx (T_M.cl .ex) (T_M.n_n .ex) rfl ?_;fail"go";refine⟨_,n,rfl,by omega,.inl ⟨w,⟨0,xx,zz⟩,rfl,hw,oo,rfl,hz,fun H1 S1=>?_⟩⟩;fail"go";refine a4q (d:=MK.ex) (S1 _ _ hx) rfl ?_;fail"go";refine⟨x,w,a,n,s.ws,⟨0,xx,zz⟩,rfl,⟨dx,S1 _ _ hx⟩,hW.stay S1,wn,hn,SqT.of (S1 _ _ hw),oo,rfl,fun H2 S2=>?_⟩;have S12:=S1.trans S2;have hf2:=hf.stay S12;have hd2:=hd.stay S12;have hx2:=S12 _ _ hx;have hw2:=S12 _ _ hw;have hm2:=hm.stay S12
  cases ej:jv s.ws ⟨0,xx,zz⟩ with
  | none=>
   rw[jstp_f ej] at q;rw[show jvV none=V.non from rfl];fail"go";refine⟨rfl,_,rfl,iteB (fun z=>by simp at z) (fun _=>?_)⟩;fail"go";refine⟨.ref f,rfl,.inr ⟨f,d,lb,bs,s.i,rfl,hf2,hd2,fun H3 hB3 hd3=>?_⟩⟩;obtain⟨dxd,hdd⟩:=hd2.ins;have nxd:=b3q hm2 hd2;have hm3:=hm2.but hB3 hdd nxd;have hx3:=hB3 _ _ nxd hx2;have hw3:=hB3 _ _ (fun z=>by rw[z,hdd] at hw2;cases hw2) hw2;have hbl:=bit_le hd.choose_spec.2.2.2.2 s.i;generalize bs.getD s.i 0=b at q hbl ⊢;fail"go";refine a4q (d:=MK.ex) hx3 rfl ?_;fail"go";obtain⟨a3,hE3,hW3⟩:=hm3;refine⟨x,w,a3,n,b,s.ws,⟨0,xx,zz⟩,rfl,hE3,hW3,wn,hn,SqT.of hw3,oo,fun p H4 hB4 hE4 hW4=>?_⟩;have hd4:=hd3.butJ hB4 hx3 nxd.symm;fail"go";rename_i pt hpt;have n5:=a0c hpt (.tup [.int (b:Int),.bl false]);rw[show (0:Nat)^^^b=b by rw[A3c]] at hW4;exact q pt (b,false) _ (fun c o h1 h2 e=>n5 _ _ (hB4 _ _ h1 (hB3 _ _ h2 (S12 _ _ e)))) ⟨p,hE4.stay n5,hW4.stay n5⟩ (hd4.stay n5) rfl a0b
  | some v=>
   rw[jstp_s ej] at q;rw[show jvV (some v)=V.int (v:Int) from rfl];fail"go";refine⟨rfl,_,rfl,iteB (fun _=>?_) (fun z=>by simp at z)⟩;fail"go";rename_i pt hpt;have S4:=S12.trans (a0c hpt (.tup [.int (v:Int),.bl true]));exact q pt (v,true) _ (fun c o _ _ e=>S4 _ _ e) (hm.stay S4) (hd.stay S4) rfl a0b
 | sg=>
  obtain⟨dx,a,xs,hx,ha,hR⟩:=id hm;refine a1m hx (T_M.cl .sg) (T_M.n_n .sg) rfl ?_;fail"go";refine⟨_,n,rfl,by omega,.inl ⟨w,⟨0,xx,zz⟩,rfl,hw,oo,rfl,hz,fun H1 S1=>?_⟩⟩;fail"go";refine a4q (d:=MK.sg) (S1 _ _ hx) rfl ?_;fail"go";refine⟨x,w,n,k,s.ws,s.rs,⟨0,xx,zz⟩,rfl,c6k.stay hm S1,jt,hn,S1 _ _ hw,oo,rfl,fun H2 S2=>?_⟩;have S12:=S1.trans S2;have hf2:=hf.stay S12;have hd2:=hd.stay S12;have hx2:=S12 _ _ hx;have hw2:=S12 _ _ hw;have hm2:=hm.stay S12
  cases ej:jv s.ws ⟨0,xx,zz⟩ with
  | none=>
   rw[jstp_f ej] at q;rw[show jvV none=V.non from rfl];fail"go";refine⟨rfl,_,rfl,iteB (fun z=>by simp at z) (fun _=>?_)⟩;fail"go";refine⟨.ref f,rfl,.inr ⟨f,d,lb,bs,s.i,rfl,hf2,hd2,fun H3 hB3 hd3=>?_⟩⟩;obtain⟨dxd,hdd⟩:=hd2.ins;have nxd:=b3q hm2 hd2;have hm3:=hm2.but hB3 hdd nxd;have hx3:=hB3 _ _ nxd hx2;have hw3:=hB3 _ _ (fun z=>by rw[z,hdd] at hw2;cases hw2) hw2;have hbl:=bit_le hd.choose_spec.2.2.2.2 s.i;generalize bs.getD s.i 0=b at q hbl ⊢;fail"go";refine a4q (d:=MK.sg) hx3 rfl ?_;fail"go";have hno:=jt.none_of oo ej
   obtain⟨c,cs,hcs⟩:∃c cs,s.rs.filter (fun u=>a3d u ⟨0,xx,zz⟩)=c::cs:=by
    obtain⟨u,hu,e⟩:=jt.kp.full oo hno;have hm:u∈s.rs.filter (fun u=>a3d u ⟨0,xx,zz⟩):=A4z.2 ⟨hu,e⟩
    cases hf:s.rs.filter (fun u=>a3d u ⟨0,xx,zz⟩) with
    | nil=>rw[hf] at hm;cases hm
    | cons c cs=>exact⟨c,cs,rfl⟩
   have est:stlJ s.rs ⟨0,xx,zz⟩ b=s.rs.filter (fun r=>!a3d r ⟨0,xx,zz⟩)++cs.map (tm c)++[⟨b,xx,zz⟩]:=by
    unfold stlJ;rw[hcs]
   refine⟨x,w,n,b,s.rs,⟨0,xx,zz⟩,c,cs,rfl,hm3,jt.kp,hn,hw3,oo,hcs,fun H4 hB4 hS4=>?_⟩;have hd4:=hd3.butJ hB4 hx3 nxd.symm;fail"go";rename_i pt hpt;have n5:=a0c hpt (.tup [.int (b:Int),.bl false]);refine q pt (b,false) _ (fun c o h1 h2 e=>n5 _ _ (hB4 _ _ h1 (hB3 _ _ h2 (S12 _ _ e)))) ?_ (hd4.stay n5) rfl a0b;show c6k K a5b _ x n (stlJ s.rs ⟨0,xx,zz⟩ b);rw[est];exact hS4.stay n5
  | some v=>
   rw[jstp_s ej] at q;rw[show jvV (some v)=V.int (v:Int) from rfl];fail"go";refine⟨rfl,_,rfl,iteB (fun _=>?_) (fun z=>by simp at z)⟩;fail"go";rename_i pt hpt;have S4:=S12.trans (a0c hpt (.tup [.int (v:Int),.bl true]));exact q pt (v,true) _ (fun c o _ _ e=>S4 _ _ e) (hm.stay S4) (hd.stay S4) rfl a0b
include a1x b4n b2m in theorem ok_is_look (F:Fun K "is_look" "is_look" c8g f fd):a2k P w K mg base CX0 1 f fd ["step"] (d2z K):=by
 refine F.ok sc_is_look (by fail"ln") ?_;fail"fi";obtain⟨v,rfl,hq⟩:=h;refine⟨_,(a0m (a0x (pe_and (d3k rfl a1x (pv 0) b2m c1k) (pe_and (b5w a8r (a3e a9v rfl b4n A5f (a0a (pv 0) a0j)) a0k (a1j _)) (pe_one (b5w a8r (a0v a0s (pv 0) a0k) a3m (a1j _))))))),?_⟩;fail"go"
 rcases hq with ⟨a,y,z,rfl,ha,q⟩|⟨nl,q⟩
 ·refine c0t (b8x.tup ha) a3y ?_;have ha':SqT K H a [.str "look",y,z]:=SqT.of ha;fail"go";refine b4m (fun _=>?_) (fun c=>(c rfl).elim);fail"go";rw[show decide (("look":Str) = "look")=true from decide_eq_true rfl];exact q
 ·cases nl with
  | kind ty kt=>
   refine c0t ty kt ?_;fail"go";exact q
  | len ha hl hm=>
   refine c0t (b8x.tup ha) a3y ?_;have ha':=SqT.of (K:=K) ha;fail"go";refine b4m (fun c=>(hl (by omega)).elim) (fun c=>?_);exact q
  | word ha ne=>
   refine c0t (b8x.tup ha) a3y ?_;have ha':=SqT.of (K:=K) ha;fail"go";refine b4m (fun _=>?_) (fun c=>(c rfl).elim);fail"go";rw[decide_eq_false ne];exact q
theorem ok_look_row (F:Fun K "look_row" "look_row" c2s f fd):a2k P w K mg base CX0 1 f fd ["look"] (c7s K):=by
 refine F.ok sc_look_row (by fail"ln") ?_;fail"fi";obtain⟨a,y,z,rfl,ha,q⟩:=h;refine⟨_,(a0m (a0x (a2h (a0a a0k (a0a (a0v a0s (pv 0) a0k) (a0a (a0v a0s (pv 0) a0k) a0j)))))),?_⟩;have ha':=SqT.of (K:=K) ha;fail"go";rename_i p hp;exact q p hp
include b0r a4x b0n a7n in theorem d5n (F:Fun K "check_step" "check_step" b5h f fd):a2k P w K mg base CX0 6 f fd ["step","n"] (c0q K):=by
 refine F.ok d3z (by fail"ln") ?_;fail"fi";obtain⟨v,n,rfl,hn,hq⟩:=h;refine⟨_,(a0m (a3t (b0h (a0y b0n hr a0u (a0a (pv 0) a0j))) (a0m (a2y (a0y a4x hr a0u (a0a (a0y a7n hr a0u (a0a (pv 0) a0j)) (a0a (pv 1) a0j))))) (a0m (a2y (a0y b0r hr a0u (a0a (pv 0) (a0a (pv 1) a0j))))))),?_⟩;fail"go"
 rcases hq with ⟨a,s1,rfl,ha,ok,q⟩|hF
 ·cases s1 with
  | dd d=>
   refine⟨_,rfl,.inr ⟨NoLk.dd ha ok,?_⟩⟩;fail"go";have ok:d.Ok n:=ok;have wd:WdAt H a d.k (d.w.map fun x:Nat=>(x:Int)):=⟨by rw[<- d3t];exact ha,by rw[A0c];exact ok.len,c9c ok.nd⟩;refine⟨_,n,rfl,.inr ⟨a,d.k,_,rfl,wd,fun _ pd d3 H3 hS3 _ _ _=>q _ hS3,fun z=>(z fun i hi=>?_).elim⟩⟩;obtain⟨x,hx,rfl⟩:=List.mem_map.mp hi;have:=ok.lt x hx;omega
  | lk x z=>
   refine⟨_,rfl,.inl ⟨a,_,_,rfl,ha,?_⟩⟩;fail"go";refine⟨a,_,_,rfl,ha,fun p hp=>?_⟩;fail"go";refine⟨_,n,rfl,by omega,.inl ⟨p,⟨0,x,z⟩,rfl,a0b,⟨A1v 1,ok.1,ok.2.1⟩,rfl,ok.2.2,fun H2 S2=>?_⟩⟩;fail"go";exact q _ ((a0c hp _).trans S2)
 ·exact hF.elim
include b7a b0n a7n b9a c8w b3x b1z in theorem ok_run_work (F:FunD K "run_work" "run_work" a9s f fd .none):a2k P w K mg base CX0 8 f fd ["machine","work","draw"] (c9j K a5b b1a a0g a0e a0h a0n):=by
 refine F.ok a9z (by fail"ln") ?_;fail"fi";obtain⟨x,l,f,rfl,d,lb,n,k,kd,s,bs,as,ss,hM,jt,hs0,h0,hn,hl,has,hA,hok,hT,hf,hd,q⟩:=h;have hb1:=hd.choose_spec.2.2.2.2
 refine⟨_,(a0d (a1k 3 a9z.nd (b5u c1u rfl b7a c8p (a0a (pv 1) a0j)))
   (a0d (b0e A1y rfl (a5m (pv 3)) (a2a (i:=4) a9z.nd rfl (Or.inl rfl)) (a0m (a2y (a0y b1z hr a0u (a0a (pv 4) (a0a (c8e b9a hr a0u (pv 0)) a0j))))))
   (a0d (a1k 5 a9z.nd (a8e a0j))
   (a0d (b0e A1y rfl (a5m (pv 3)) (a2a (i:=4) a9z.nd rfl (Or.inl rfl)) (a0m (a3t (b0h (a0y b0n hr a0u (a0a (pv 4) a0j))) (a0m (a2y (pe_bm B0x B0m B0n mt_append (pv 5) (a0a (c2q b3x hr a0u (pv 0) (a0a (a0y a7n hr a0u (a0a (pv 4) a0j)) (a0a (pv 2) a0j))) a0j)))) (a0m (a2y (c2q c8w hr a0u (pv 0) (a0a (pv 4) a0j)))))))
   (a0m (a0x (pv 5))))))),?_⟩
 fail"st";fail"go";refine⟨l,refs as,rfl,.inl hl,fun p0 hp0=>?_⟩;have S0:=a0c hp0 (.lst (refs as));have f0:(upd H p0 (.lst (refs as))) p0=some (.lst (refs as)):=a0b;generalize upd H p0 (.lst (refs as))=G at S0 f0 ⊢;fail"go";refine b0d (fun P h=>⟨_,rfl,h⟩) (SqL.of f0) (fun j σ H'=>∃u,σ=[some (.ref x),some (.ref l),some (.ref f),some (.ref p0),u,none]/\a2f G H') ⟨none,rfl,a2f.refl _⟩ ?_ ?_ ?_
 ·rintro j σ H' _ ⟨u,_,s1⟩;exact SqL.of (s1 _ _ f0)
 ·rintro j y σ H' hy ⟨u,rfl,s1⟩;have S1:=S0.trans s1;obtain⟨a,ha,rfl⟩:=a6m hy;obtain⟨s2,hs2,hst⟩:=hA.get ha;fail"go";refine mth_Mn (hM.mn.stay S1) (fun _=>⟨rfl,rfl⟩) fun d=>?_;fail"go";refine⟨x,n,rfl,(hM.mn.stay S1).wires,?_⟩;fail"go";refine⟨_,n,rfl,hn,.inl ⟨a,s2,rfl,S1 _ _ hst,hok s2 (List.mem_of_getElem? hs2),fun H2 S2=>?_⟩⟩;fail"go";exact⟨_,rfl,s1.trans S2⟩
 rintro σ H1 ⟨u,rfl,s1⟩;fail"go";rename_i pt hpt;have npt:H pt=none:=none_of (S0.trans s1) hpt;have ne0:p0≠pt:=a0p (s1 _ _ f0) hpt;have S2:=(S0.trans s1).trans (a0c hpt (.lst []));have f2:=((s1.trans (a0c hpt (.lst []))) _ _ f0);have g2:(upd H1 pt (.lst [])) pt=some (.lst (refs [])):=a0b;generalize upd H1 pt (.lst [])=G2 at S2 f2 g2 ⊢;obtain⟨dx0,a0,y0,hx0⟩:=hM.wires;obtain⟨dx1,hd0⟩:=hd.ins;have nlb:lb≠pt:=a0p hd.choose_spec.2.1 npt;have n0:p0≠x:=fun z=>by rw[z,hx0] at hp0;cases hp0
 have nd0:p0≠d:=fun z=>by rw[z,hd0] at hp0;cases hp0
 have ptx:pt≠x:=fun z=>by rw[z,hx0] at npt;cases npt
 have ptd:pt≠d:=fun z=>by rw[z,hd0] at npt;cases npt
 refine b0d (fun P h=>⟨_,rfl,h⟩) (SqL.of f2) (fun j σ H'=>∃(u:Option V) (ts:List Addr),σ=[some (.ref x),some (.ref l),some (.ref f),some (.ref p0),u,some (.ref pt)]/\c2e x d H H'/\c1a a0g a0e a0h a0n H'/\Md K a5b H' x n kd ((ss.take j).foldl (a4u bs) s)/\Dl b1a H' d lb bs ((ss.take j).foldl (a4u bs) s).i/\H' p0=some (.lst (refs as))/\H' pt=some (.lst (refs ts))/\a4a (Tp H') ts ((ss.take j).foldl (a4u bs) s).ts) ⟨_,[],rfl,fun c o _ _ e _=>S2 _ _ e,hT.to S2,hM.stay S2,hd.stay S2,f2,g2,by show a4a _ [] s.ts;rw[hs0];exact .nil⟩ ?_ ?_ ?_
 ·rintro j σ H' _ ⟨u,ts,_,_,_,_,_,f,_⟩;exact SqL.of f
 ·rintro j y σ H' hy ⟨u,ts,rfl,hB,hT',hM',hd',fp,gp,hts⟩;obtain⟨a,ha,rfl⟩:=a6m hy;obtain⟨s2,hs2,hst⟩:=hA.get ha;have kn:=hB.kn hx0 hd0;have hst':H' a=some (.tup s2.V):=kn.tp hst;have hf':=kn.dr hf;have ok2:=hok s2 (List.mem_of_getElem? hs2);obtain⟨k',_,jt'⟩:=jt.at hb1 hok j;rw[fold_take hs2];have hlen:=fold_len (bs:=bs) (ss:=ss.take j) (s:=s);rw[hs0,A0u] at hlen;generalize (ss.take j).foldl (a4u bs) s=S at hM' hd' hts jt' hlen ⊢;have hjl:=(List.getElem?_eq_some_iff.1 hs2).1;have lss:=hA.len;have nxd:=b3q hM' hd';fail"go"
  cases s2 with
  | dd dd'=>
   refine⟨_,rfl,.inr ⟨NoLk.dd hst' ok2,?_⟩⟩;fail"go";have ok2:dd'.Ok n:=ok2;obtain⟨dxd,hdd⟩:=hd'.ins
   cases kd with
   | ex=>
    obtain⟨a1,hE,hW⟩:=hM';obtain⟨dx,hx⟩:=id hE;have wl:=jt'.wn.len hn;refine a4q (d:=MK.ex) hx rfl ?_;fail"go";refine⟨x,.ref a,n,rfl,hn,.inl ⟨a,dd',rfl,hst',ok2,.inl ⟨a1,S.ws,hE,hW,jt'.wn.nd,by omega,hT',fun p H4 hB4 hT4 hp4 hE4 hW4=>?_⟩⟩⟩;have kn4:Kn H' H4:=fun c o e m1 m2=>hB4 c o (fun z=>by rw[z,hx] at e;exact m1 _ _ _ (A0j e).symm) e m2;fail"go";exact⟨_,ts,rfl,fun c o hc hc2 e nt=>hB4 _ _ hc (hB _ _ hc hc2 e nt) nt,hT4,⟨p,hE4,hW4⟩,kn4.dl hd' (fun o e=>by rw[hdd] at e;rw[<- e];exact hB4 _ _ nxd.symm hdd (by intro ps z;cases z)),kn4.ls fp,kn4.ls gp,kn_tp kn4 hts⟩
   | sg=>
    obtain⟨dx,a2,xs2,hx,ha2,hR2⟩:=id hM';refine a4q (d:=MK.sg) hx rfl ?_;fail"go";refine⟨x,.ref a,n,rfl,hn,.inl ⟨a,dd',rfl,hst',ok2,.inr ⟨S.rs,hM',by rw[jt'.kp.len];omega,fun H4 hB4 hS4=>?_⟩⟩⟩;have kn4:Kn H' H4:=fun c o e m1 m2=>hB4 c o (fun z=>by rw[z,hx] at e;exact m1 _ _ _ (A0j e).symm) e;fail"go";exact⟨_,ts,rfl,fun c o hc hc2 e nt=>hB4 _ _ hc (hB _ _ hc hc2 e nt),d0j hT' hB4 hx,hS4,kn4.dl hd' (fun o e=>hB4 _ _ nxd.symm e),kn4.ls fp,kn4.ls gp,kn_tp kn4 hts⟩
  | lk xx zz=>
   refine⟨_,rfl,.inl ⟨a,_,_,rfl,hst',?_⟩⟩;fail"go";have ok3:xx<2^n/\zz<2^n/\¬(xx=0/\zz=0):=ok2;refine mth_Mn hM'.mn (fun _=>⟨rfl,rfl⟩) fun d0=>?_;fail"go";refine⟨a,_,_,rfl,hst',fun p hp=>?_⟩;fail"go";have S3:=a0c hp (.tup [.int 0,.int (xx:Int),.int (zz:Int)]);have f3:(upd H' p (.tup [.int 0,.int (xx:Int),.int (zz:Int)])) p=some (.tup (⟨0,xx,zz⟩:Row).V):=a0b;generalize upd H' p (.tup [.int 0,.int (xx:Int),.int (zz:Int)])=H3 at S3 f3 ⊢;have hM3:=hM'.stay S3;obtain⟨dx,a3,y3,hx⟩:=hM3.wires;obtain⟨dxd,hdd⟩:=(hd'.stay S3).ins;refine⟨x,p,f,rfl,d,lb,n,k',kd,S,xx,zz,bs,hM3,jt',hn,f3,ok3.1,ok3.2.1,ok3.2.2,hf'.stay S3,hd'.stay S3,fun pq v H4 hB4 hM4 hd4 hv hq4=>?_⟩;have kn4:Kn H3 H4:=fun c o e m1 m2=>hB4 c o (fun z=>by rw[z,hx] at e;exact m1 _ _ _ (A0j e).symm) (fun z=>by rw[z,hdd] at e;exact m1 _ _ _ (A0j e).symm) e;have f4:=kn4.ls (S3 _ _ fp);have g4:=kn4.ls (S3 _ _ gp);have hts4:=kn_tp ((Kn.of S3).trans kn4) hts
   have lts:ts.length<=100:=by
    rw[hts.len];simp only[A4v] at hlen;omega
   have hrs:(a4u bs S (.lk xx zz)).rs.length=n:=(jt'.stp hb1 ok2).kp.len;fail"go";refine⟨_,ts++[pq],rfl,fun c o hc hc2 e nt=>?_,tabsL_but (tabs_but2 (hT'.to S3) hB4 hx hdd) But.upd g4,hM4.app h0 hrs g4 hts4,dl_upd hd4 g4 nlb,by rw[a0q ne0];exact f4,by rw[a0b,a7a],?_⟩
   ·rw[a0q (a0p e npt)];exact hB4 _ _ hc hc2 (S3 _ _ (hB _ _ hc hc2 e nt))
   ·rw[hv]
    exact(tp_upd g4 hts4).snoc (by
     have x:Tp H4 pq v:=hq4;show upd H4 pt _ pq=_;rw[a0q fun z=>by rw[z] at x;unfold Tp at x;rw[g4] at x;cases x]
     exact x)
 ·rintro σ H' ⟨u,ts,rfl,hB,hT',hM',hd',fp,gp,hts⟩;fail"go";rw[a1r,hA.len,A1h] at hM' hd' hts;exact q pt ts H' hB hT' hM' hd' npt gp hts
theorem d6x (F:Fun K "_law_mixed" "_law_mixed" b6d f fd):a2k P w K mg base CX0 1 f fd ["_law_draw","_law_k"] (c0n K):=by
 refine F.ok a7b (by fail"ln") ?_;fail"fi";obtain⟨c,k,rfl,hk,q⟩:=h
 refine⟨_,(a0d (a1k 2 a7b.nd (a0t a5h (a0t op_shr (pv 0) (a0t a3v a0k (a0t b2j a0k (pv 1)))) a0k))
   (a0d (a1k 3 a7b.nd (a0t a4n (a0t b2j (a0t a3v (a0t a3v (a0t a4n (a0t a5h (pv 0) a0k) a0k) (a0t b2j a0k (pv 1))) a0k) a0k) a0k))
   (a0d (a1k 3 a7b.nd (a0t a4n (a0t b2j (pv 3) (a0t a3v (a0t c5x (pv 3) a0k) a0k)) a0k))
   (a0d (a1k 3 a7b.nd (a0t a4n (a0t b2j (pv 3) (a0t a3v (a0t a3v (a0t c5x (pv 3) a0k) a0k) (pv 1))) a0k))
   (a0m (a0x (a0t a4n (a0t a3v (pv 3) (pv 2)) a0k))))))),?_⟩
 fail"go";refine st_i ⟨by omega,by omega⟩ ?_;fail"go";refine st_i ⟨by omega,by omega⟩ ?_;fail"go";refine st_i ⟨by omega,by omega⟩ ?_;fail"go";refine st_i ⟨by omega,by omega⟩ ?_;fail"go";refine st_i ⟨by omega,by omega⟩ ?_;fail"go"
 have key:∀x:Int,Q (.int (x%2147483648)) H:=fun x=>by
  obtain⟨m,e,hm⟩:=b9c x (n:=2147483648) (by decide);have e2:x%2147483648=(m:Int):=e;rw[e2];exact q m hm
 first
 | exact key _
 | (rename_i m em hm;exact q m hm)
include a0z in theorem d4v (F:Fun K "_law_words" "_law_words" b5t f fd):a2k P w K mg base CX0 2 f fd ["_law_draw","_law_n"] (c0g K):=by
 refine F.ok a9k (by fail"ln") ?_;fail"fi";obtain⟨c,n,rfl,h0,hn,q⟩:=h
 refine⟨_,(a0d (a1k 2 a9k.nd (a0t a4n (a0y a0z hr a0u (a0a (pv 0) (a0a a0k a0j))) a0k))
   (a0d (a1k 3 a9k.nd (a0t a4n (a0y a0z hr a0u (a0a (pv 0) (a0a a0k a0j))) (pv 1)))
   (a0d (a3t (PW.pt (d6c (a1b a8r (pv 1) a0k (a1j _)) (c3h (a1b op_lt (pv 2) a0k (a1j _))))) (a0m (a0x (a2h (a0a (a0v a7q (a8e (a0a a3m (a0a a3m (a0a a3m (a0a a3m (a0a a3m a0j)))))) (a0t a4n (pv 2) a0k)) (a0a (pv 3) a0j))))) a1q)
   (a0d (a1k 4 a9k.nd (a0t a4n (a0t a3v (a0t a3v (pv 3) a0k) (a0t a4n (a0y a0z hr a0u (a0a (pv 0) (a0a a0k a0j))) (a0t b7q (pv 1) a0k))) (pv 1)))
   (a0m (a0x (a2h (a0a (a0v a7q (a8e (a0a a3m (a0a a3m (a0a a3m (a0a a3m a0j))))) (a0t b7q (pv 2) a0k)) (a0a (pv 4) (a0a (pv 3) a0j)))))))))),?_⟩
 fail"st";fail"go";refine⟨c,1,rfl,by decide,fun m1 h1=>?_⟩;fail"go";refine⟨c,2,rfl,by decide,fun m2 h2=>?_⟩;fail"go";rename_i t et ht;refine b4m (fun c1=>?_) (fun c1=>?_)
 ·fail"go";rename_i pl kpl;obtain⟨m5,e5,h5⟩:=b9c ((m1:Int)%9) (n:=5) (by decide);rw[show (m1:Int)%9%5=(m5:Int) from e5];refine c9x (SqL.of a0b) (at_k5 h5) ?_;fail"go";rename_i p2 hp2;exact q p2 _ ⟨k5 m5,[t]⟩ (by fail"sm") a0b ⟨(k5_n m5).symm,fun x hx=>by rw[List.mem_singleton.mp hx];exact ht,by simp⟩
 ·fail"go";refine b4m (fun c2=>?_) (fun c2=>?_)
  ·fail"go";rename_i pl kpl;obtain⟨m5,e5,h5⟩:=b9c ((m1:Int)%9) (n:=5) (by decide);rw[show (m1:Int)%9%5=(m5:Int) from e5];refine c9x (SqL.of a0b) (at_k5 h5) ?_;fail"go";rename_i p2 hp2;exact q p2 _ ⟨k5 m5,[t]⟩ (by fail"sm") a0b ⟨(k5_n m5).symm,fun x hx=>by rw[List.mem_singleton.mp hx];exact ht,by simp⟩
  ·fail"go";refine⟨c,3,rfl,by decide,fun m3 h3=>?_⟩;fail"go";rename_i j ej hj pl kpl;obtain⟨m4,e4⟩:∃m4:Nat,(m1:Int)%9-5=(m4:Int):=⟨((m1:Int)%9-5).toNat,by omega⟩;rw[e4];refine c9x (SqL.of a0b) (at_k4 (by omega)) ?_;fail"go";rename_i p2 hp2;have hji:t≠j:=ne_modI ht (B1m _ (by omega)) (A9m _ (by omega)) ej;refine q p2 _ ⟨k4 m4,[j,t]⟩ (by fail"sm") a0b ⟨(k4_n m4).symm,fun x hx=>?_,by simp[A1e hji]⟩
   rcases List.mem_cons.mp hx with rfl|hx
   ·exact hj
   ·rw[List.mem_singleton.mp hx];exact ht
include a0z in theorem ok__law_bits (F:Fun K "_law_bits" "_law_bits" b8g f fd):a2k P w K mg base CX0 2 f fd ["_law_draw","_law_k","_law_n"] (c3p K):=by
 refine F.ok c2t (by fail"ln") ?_;fail"fi";obtain⟨c,k,n,rfl,hk,hn,q⟩:=h
 refine⟨_,(a0d (a1k 3 c2t.nd (a0t a3v (a0t b2j (a0y a0z hr a0u (a0a (pv 0) (a0a (pv 1) a0j))) a0k) (a0y a0z hr a0u (a0a (pv 0) (a0a (a0t a3v (pv 1) a0k) a0j)))))
   (a0m (a0x (a0t a4n (pv 3) (a0t a8g a0k (pv 2)))))),?_⟩
 fail"go";refine⟨c,k,rfl,by omega,fun m1 h1=>?_⟩;fail"go";refine st_i ⟨by omega,by omega⟩ ?_;fail"go";refine⟨c,k+1,by push_cast;rfl,by omega,fun m2 h2=>?_⟩;fail"go";rename_i m em hm;exact q m hm
include a0z b0g in theorem d4g (F:Fun K "_law_signs" "_law_signs" b6b f fd):a2k P w K mg base CX0 3 f fd ["_law_draw","_law_n"] (c0x K):=by
 refine F.ok a2x (by fail"ln") ?_;fail"fi";obtain⟨c,n,rfl,h0,hn,q⟩:=h
 refine⟨_,(a0d (a1k 2 a2x.nd (a0y b0g hr a0u (a0a (pv 0) (a0a a0k (a0a (pv 1) a0j)))))
   (a0d (a1k 3 a2x.nd (a0y b0g hr a0u (a0a (pv 0) (a0a a0k (a0a (pv 1) a0j)))))
   (a0d (a1k 4 a2x.nd (a0t a4n (a0y a0z hr a0u (a0a (pv 0) (a0a a0k a0j))) a0k))
   (a0d (a3t (a1b op_lt (pv 4) a0k (a1j _)) (a0d (a1k 5 a2x.nd (a0t a8g a0k (a0t a4n (a0y a0z hr a0u (a0a (pv 0) (a0a a0k a0j))) (pv 1))))
   (a0d (a1k 6 a2x.nd (a0t a8g a0k (a0t a4n (a0y a0z hr a0u (a0a (pv 0) (a0a a0k a0j))) (pv 1))))
   (a0d (a1k 2 a2x.nd (a0v a7q (a8e (a0a a0k (a0a (pv 5) (a0a (pv 5) (a0a (a0t op_or (pv 5) (pv 6)) a0j))))) (a0t a4n (a0y a0z hr a0u (a0a (pv 0) (a0a a0k a0j))) a0k)))
   (a0m (a1k 3 a2x.nd (a0v a7q (a8e (a0a (pv 5) (a0a a0k (a0a (pv 5) (a0a (pv 6) a0j))))) (a0t a4n (a0y a0z hr a0u (a0a (pv 0) (a0a a0k a0j))) a0k))))))) a1q)
   (a0d (a3t (PW.pt (pw_and (a1b a8r (pv 2) a0k (a1j _)) (d3x (a1b a8r (pv 3) a0k (a1j _))))) (a0m (a1k 3 a2x.nd a0k)) a1q)
   (a0m (a0x (a2h (a0a (pv 2) (a0a (pv 3) a0j)))))))))),?_⟩
 fail"st";fail"go";refine⟨c,10,n,rfl,by omega,hn,fun xs hxs=>?_⟩;fail"go";refine⟨c,12,n,rfl,by omega,hn,fun zs hzs=>?_⟩;fail"go";refine⟨c,14,rfl,by omega,fun m1 h1=>?_⟩;fail"go";refine b4m (fun _=>?_) (fun _=>?_)
 ·fail"go";refine⟨c,15,rfl,by omega,fun m2 h2=>?_⟩;fail"go";refine⟨c,16,rfl,by omega,fun m3 h3=>?_⟩;fail"go";rename_i t1 et1 ht1 t2 et2 ht2 l1 kl1;refine⟨c,17,rfl,by omega,fun m4 h4=>?_⟩;fail"go";obtain⟨x1,ex1,mx1⟩:=at4b m4 0 (2^t1) (2^t1) (2^t1|||2^t2)
  have p1:(2:Nat)^t1<2^n:=A1r (by decide) ht1;have p2:(2:Nat)^t2<2^n:=A1r (by decide) ht2;have p0:=A1m n
  have lx1:x1<2^n:=by
   simp only[A3a,A2z,or_false] at mx1
   rcases mx1 with rfl|rfl|rfl|rfl
   ·exact p0
   ·exact p1
   ·exact p1
   ·exact Nat.or_lt_two_pow p1 p2
  fail"go";rename_i l2 kl2;refine⟨c,18,rfl,by omega,fun m5 h5=>?_⟩;fail"go";obtain⟨x2,ex2,mx2⟩:=at4b m5 (2^t1) 0 (2^t1) (2^t2)
  have lx2:x2<2^n:=by
   simp only[A3a,A2z,or_false] at mx2
   rcases mx2 with rfl|rfl|rfl|rfl
   ·exact p1
   ·exact p0
   ·exact p1
   ·exact p2
  fail"go";refine b4m (fun c1=>?_) (fun c1=>?_)
  ·fail"go";refine b4m (fun c2=>?_) (fun c2=>?_)
   ·fail"go";rename_i p hp;exact q p _ x1 1 (by fail"sm") a0b ⟨lx1,Nat.one_lt_two_pow (by omega),.inr (by decide)⟩
   ·fail"go";rename_i p hp;exact q p _ x1 x2 (by fail"sm") a0b ⟨lx1,lx2,by omega⟩
  ·fail"go";rename_i p hp;exact q p _ x1 x2 (by fail"sm") a0b ⟨lx1,lx2,by omega⟩
 ·have S0:=a2f.refl H;fail"go";refine b4m (fun c1=>?_) (fun c1=>?_)
  ·fail"go";refine b4m (fun c2=>?_) (fun c2=>?_)
   ·fail"go";rename_i p hp;exact q p _ xs 1 (S0.trans (a0c hp _)) a0b ⟨hxs,Nat.one_lt_two_pow (by omega),.inr (by decide)⟩
   ·fail"go";rename_i p hp;exact q p _ xs zs (S0.trans (a0c hp _)) a0b ⟨hxs,hzs,by omega⟩
  ·fail"go";rename_i p hp;exact q p _ xs zs (S0.trans (a0c hp _)) a0b ⟨hxs,hzs,by omega⟩
include a0z b1m b1n in theorem ok__law_one (F:Fun K "_law_one" "_law_one" c1w f fd):a2k P w K mg base CX0 4 f fd ["_law_draw","_law_n"] (c7m K):=by
 refine F.ok b8j (by fail"ln") ?_;fail"fi";obtain⟨c,n,rfl,h0,hn,q⟩:=h
 refine⟨_,(a0d (a3t (a1b a8r (a0t a4n (a0y a0z hr a0u (a0a (pv 0) (a0a a0k a0j))) a0k) a0k (a1j _)) (a0d (ps_asg (a0y b1n hr a0u (a0a (pv 0) (a0a (pv 1) a0j))) (b5f rfl (a2e (a2a (i:=2) b8j.nd rfl (Or.inl rfl)) (a2e (a2a (i:=3) b8j.nd rfl (Or.inl rfl)) b0v))))
   (a0m (a0x (a2h (a0a a3m (a0a (pv 2) (a0a (pv 3) a0j))))))) a1q)
   (a0m (a0x (a0y b1m hr a0u (a0a (pv 0) (a0a (pv 1) a0j)))))),?_⟩
 fail"st";fail"go";refine⟨c,40,rfl,by decide,fun m hm=>?_⟩;fail"go";refine b4m (fun _=>?_) (fun _=>?_)
 ·fail"go";refine⟨c,n,rfl,h0,by omega,fun p H1 xs zs hS1 hp hxz=>?_⟩;have hp':=SqT.of (K:=K) hp;fail"go";rename_i p2 hp2;exact q p2 _ (.lk xs zs) (hS1.trans (a0c hp2 _)) a0b ⟨hxz.1,hxz.2.1,fun z=>hxz.2.2.elim (fun e=>e z.1) (fun e=>e z.2)⟩
 ·fail"go";refine⟨c,n,rfl,h0,by omega,fun pw Hw dd hSw hw ok=>?_⟩;fail"go";exact q pw Hw (.dd dd) hSw hw ok
include T_R in theorem c1j (F:Fun K "__init__" "Draws.__init__" a5t f fd):a2k P w K mg base CX0 1 f fd ["self","numbers"] (a7r K b1a):=by
 refine F.ok b2v (by fail"ln") ?_;fail"fi";obtain⟨p,l,dx,ns,rfl,hp,hl,hn,q⟩:=h
 refine⟨_,(a0d (a9a (pv 0) (a8q (sc:=a0f a5t) rfl (by fail"k5") (by show ("number":Str)∉(["self","numbers"]:List Str);decide +kernel) (by show (".0":Str)∉(["self","numbers"]:List Str);decide +kernel) b2v.nd rfl (a5m (pv 1)) (fun _ _ _ _=>a8v) (fun _ _ _ _=>(a0t a5h (pv 0) a0k))) rfl)
   (a0m (a9a (pv 0) a0k rfl))),?_⟩
 fail"st";fail"go";refine b3z (fun P h=>⟨_,rfl,h⟩) hl (fun i ys H'=>H'=H/\ys=vn ((ns.take i).map fun i=>(i%2).toNat)) (by rw[A0c];omega) ⟨rfl,rfl⟩ ?_ ?_ ?_ ?_
 ·rintro i ys H' ⟨_,rfl⟩;rw[c8d,A0c,A0u];omega
 ·rintro i ys H' ⟨rfl,_⟩;exact hl
 ·rintro i x ys H' hx ⟨rfl,rfl⟩;obtain⟨c,rfl⟩:=int_get hx
  have hc:ns[i]? = some c:=by
   rw[List.getElem?_map] at hx
   cases e:ns[i]? with
   | none=>rw[e] at hx;cases hx
   | some z=>rw[e] at hx;cases hx;rfl
  fail"go";refine⟨rfl,?_⟩;rw[and1_int,a1u hc,A1b,<- vn_app];have e:((c%2).toNat:Int)=c%2:=by omega
  show _++[V.int (c%2)]=_++[V.int (((c%2).toNat:Nat):Int)];rw[e]
 ·rintro ys H' ⟨rfl,rfl⟩ p1 hp1;rw[A0c,A1h];have k1:=a0c hp1 (.lst (vn (ns.map fun i=>(i%2).toNat))) _ _ hp;fail"go";refine a5n k1 (T_R.cl .draws) (T_R.n_bits .draws) (by simp) ?_;fail"go";refine a5n a0b (T_R.cl .draws) (T_R.n_told .draws) (A2n (a7w _ _ _) (by decide)) ?_;have hpp:p1≠p:=fun z=>by rw[z,hp] at hp1;cases hp1
  rw[d6z,dflds_put];have hB:But p (upd H' p1 (.lst (vn (ns.map fun i=>(i%2).toNat)))) (upd (upd H' p1 (.lst (vn (ns.map fun i=>(i%2).toNat)))) p (.ins (b1a .draws) dx [("bits",.ref p1),("told",.int 0)])):=But.upd;refine q _ p1 (fun c o hc e=>hB _ _ hc (a0c hp1 _ _ _ e)) hp1 ⟨dx,a0b,hB _ _ hpp a0b,A1v _,by rw[A0c];exact hn,fun b hb=>?_⟩;obtain⟨i,_,rfl⟩:=A1k.1 hb;omega
include T_R bm d4y b1d in theorem ok_drawer_of (F:FunC K "drawer_of" "drawer_of" a6d f fd a2d):a2k P w K mg base CX0 3 f fd ["numbers"] (c3m K b1a a0g a0e a0h a0n):=by
 refine F.okRet (l:=a5d) (clf:=fun L=>[("draws",L+1)]) c3e b1d bm rfl (fun _=>rfl) (fun _=>rfl) (fun _=>rfl) (fun L y a h=>by cases h with|head=>exact⟨rfl,rfl⟩|tail _ h=>cases h) (fun vs H Q E h=>?_) (fun A outer s H vs Q E hr h=>?_)
 ·obtain⟨_,_,rfl,_⟩:=h;rfl
 obtain⟨l,ns,rfl,hl,hn,tb,q⟩:=h;refine⟨_,(b2w (i:=1) c3e.nd rfl (Or.inr rfl) (b4c d4y hr a0u (a0a (pv 0) a0j))),?_⟩;fail"go";intro x dx hx hdx hne;have S0:a2f H (upd (upd H dx (.own x)) x (.ins (b1a .draws) dx [])):=b2u hx hdx;refine⟨x,l,dx,ns,rfl,a0b,S0.seq hl,hn,fun H' lb hB hlb hd=>⟨rfl,?_⟩⟩;have S1:a2f H H':=But.same S0 hB hx;fail"go";refine⟨tb.2.2.2.1.same S1,fun f' H2 sx tb2 fr la G cov=>?_⟩;obtain⟨ps,hT,_⟩:=id tb.2.2.2.1;have hT':=S1 _ _ hT;have sT:a4t H G:=fun a o e n=>cov.same _ _ (sx.t hT' a o (S1 _ _ e) n);have tG:∀a o,H' a=some o->(∀ps,o≠.tbl ps)->G a=some o:=fun a o e n=>cov.same _ _ (sx.t hT' a o e n);have oth:∀(T:Addr) (l:Lam),a4j H T l->T≠a0n->a4j G T l:=fun T l h ne=>a4j.same cov.same (a4j.other sx ne hT' (h.same S1));have nd4:=tb.2.2.2.2;simp only[A3e,A3a,A2z,or_false,not_or] at nd4;refine q f' x lb G sT ⟨oth _ _ tb.1 fun z=>?_,oth _ _ tb.2.1 fun z=>?_,oth _ _ tb.2.2.1 fun z=>?_,a4j.same cov.same tb2,tb.2.2.2.2⟩ ?_ hx (none_of S0 hlb) ?_ ?_
 ·exact nd4.1.2.2 z
 ·exact nd4.2.1.2 z
 ·exact nd4.2.2.1 z
 ·cases e:H f' with
  | none=>rfl
  | some u=>rw[S1 _ _ e] at fr;cases fr
 ·obtain⟨_,o,g1,g2⟩:=cov.at_ "draws" _ A0k;obtain⟨u,g3,g4⟩:=g2 1 (.ref x) rfl rfl;obtain rfl:u=A1w x:=g4;exact⟨_,o,b6z.same cov.same la,g1,g3⟩
 ·obtain⟨dx',h1,h2,h3⟩:=hd;exact⟨dx',tG _ _ h1 (by intro p z;cases z),tG _ _ h2 (by intro p z;cases z),h3⟩
theorem c0f (F:Fun K "_law_multiplied" "_law_multiplied" a7t f fd):a2k P w K mg base CX0 1 f fd ["_law_one_here","_law_other"] (b1w K):=by
 refine F.ok c0c (by fail"ln") ?_;fail"fi";obtain⟨a,b,p,q',rfl,ha,hb,hp,hq,q⟩:=h;refine⟨_,(a0m (a0x (a2h (a0a (a0t b7q (a0t b2j (a0v a0s (pv 0) a0k) (a0v a0s (pv 1) a0k)) (a0t b2j (a0v a0s (pv 0) a0k) (a0v a0s (pv 1) a0k))) (a0a (a0t a3v (a0t b2j (a0v a0s (pv 0) a0k) (a0v a0s (pv 1) a0k)) (a0t b2j (a0v a0s (pv 0) a0k) (a0v a0s (pv 1) a0k))) a0j))))),?_⟩;fail"st";have c1:CMulV p.1 q'.1:=⟨hp.1,hq.1⟩;have c2:CMulV p.2 q'.2:=⟨hp.2,hq.2⟩;have c3:CMulV p.1 q'.2:=⟨hp.1,hq.2⟩;have c4:CMulV p.2 q'.1:=⟨hp.2,hq.1⟩;fail"go";rename_i t ht;exact q t _ (a0c ht _) a0b
include d0x b_min c0b a3x in theorem d3y (F:Fun K "_law_alike" "_law_alike" b1s f fd):a2k P w K mg base CX0 2 f fd ["_law_one_here","_law_other"] (b9m K):=by
 refine F.ok b3h (by fail"ln") ?_;fail"fi";obtain⟨a,b,n,ws,rfl,hab,⟨k1,h1,w1⟩,⟨k2,h2,w2⟩,wn,hne,hn,bn,q⟩:=h;have hl:=wn.len hn
 have bd:∀c,(wv ws c).1.natAbs<2^300/\(wv ws c).2.natAbs<2^300:=fun c=>by
  have:=bn c;have h3:(2:Nat)^70<2^300:=A1r (by decide) (by decide);exact⟨A2n this.1 h3,A2n this.2 h3⟩
 refine⟨_,(a0d (a3t (a1b (op_neD (b3g hr)) (a3e (c3q rfl) rfl c0b B0p (a0a (pv 0) a0j)) (a3e (c3q rfl) rfl c0b B0p (a0a (pv 1) a0j)) (a1j _)) (a0m (a0x pe_bl)) a1q)
   (a0d (b2w (i:=2) b3h.nd rfl (Or.inr rfl) (a3e (call_minD rfl) rfl b_min boot_min (a0a (pv 0) a0j)))
   (a0m (a0x (a3e (c6z rfl) rfl d0x d4c (a0a (pe_thaw (a8q (sc:=a0f b1s) rfl (by fail"k5") (by show ("_law_k":Str)∉(["_law_one_here","_law_other","_law_first"]:List Str);decide +kernel) (by show (".0":Str)∉(["_law_one_here","_law_other","_law_first"]:List Str);decide +kernel) b3h.nd rfl (pi_keys (pv 0)) (fun _ _ _ _=>a8v) (fun _ _ _ _=>(b5w (op_eqDK (K:=K) rfl (b3g hr)) (a0y a3x hr a0u (a0a (d7b (c7b hr) (pv 1) (pv 0) (fun _ _=>rfl)) (a0a (d7b (c7b hr) (pv 2) (pv 3) (fun _ _=>rfl)) a0j))) (a0y a3x hr a0u (a0a (d7b (c7b hr) (pv 2) (pv 0) (fun _ _=>rfl)) (a0a (d7b (c7b hr) (pv 1) (pv 3) (fun _ _=>rfl)) a0j))) (a1j _))))) a0j)))))),?_⟩
 fail"st";fail"go";refine⟨a,k1,_,rfl,.inl h1,w1.kints,by rw[kz_len];exact hl,fun p1 kp1=>?_⟩;fail"go";refine⟨b,k2,_,rfl,.inl (a0c kp1 _ _ _ h2),w2.kints,by rw[kz_len];exact hl,fun p2 kp2=>?_⟩;refine rNeD_intsL ((a0c kp2 _).seq (SqL.of a0b)) (SqL.of a0b) ?_;generalize srt (kz ws)=ms1 at kp2 ⊢;have S0:a2f H (upd (upd H p1 (.lst (ms1.map V.int))) p2 (.lst (ms1.map V.int))):=(a0c kp1 _).trans (a0c kp2 _);generalize upd (upd H p1 (.lst (ms1.map V.int))) p2 (.lst (ms1.map V.int))=G at S0 ⊢;fail"go";refine iteN (fun c=>(c rfl).elim) (fun c=>?_);have h1G:=S0 _ _ h1;have h2G:=S0 _ _ h2;have w1G:=w1.stay (K:=K) (H':=G) fun y ys s=>S0.tup s;have w2G:=w2.stay (K:=K) (H':=G) fun y ys s=>S0.tup s;fail"go";refine⟨a,k1,_,rfl,.inl h1G,w1.kints,by rw[kz_len];exact List.length_pos_iff.2 hne,fun M hM _=>?_⟩;obtain⟨f,hf,rfl⟩:=kz_mem.mp hM;fail"go";refine st_cpK (fun P h=>⟨_,rfl,h⟩) h1G (by rw[w1.len];omega) (fun o i ys H'=>But a G H'/\H' a=some (.frz o (.dK k1))/\ys=(A4b i true).map V.bl) (fun o=>⟨But.upd,a0b,rfl⟩) ?_ ?_ ?_ ?_
 ·rintro o i ys H' ⟨_,_,rfl⟩;simp
 ·rintro o i ys H' ⟨_,e,_⟩;exact e
 ·rintro o i k v ys H' hget ⟨hB,hz,rfl⟩;obtain⟨c,pp,a',e1,rfl,rfl,sq⟩:=w1.get hget;have hcw:c∈ws.map (·.1):=List.mem_map.mpr ⟨_,List.mem_of_getElem? e1,rfl⟩
  have rdA:Rd H' a (.dK k1):=.inr ⟨o,hz⟩;have rdB:Rd H' b (.dK k2):=.inl (hB _ _ (A1e hab) h2G);have wA:=w1G.stay (K:=K) (H':=H') (hB.tup h1G);have wB:=w2G.stay (K:=K) (H':=H') (hB.tup h1G);show tYes (some (V.int ((c:Nat):Int))::_) H' _;fail"go";obtain⟨t1,d1,s1⟩:=wA.dget rdA hcw;refine⟨a,_,rfl,d1,?_⟩;fail"go";obtain⟨t2,d2,s2⟩:=wB.dget rdB hf;refine⟨b,_,rfl,d2,?_⟩;fail"go";refine⟨t1,t2,_,_,rfl,s1,s2,bd _,bd _,fun t3 G3 n3 e3=>?_⟩;have f3:=SqT.of (K:=K) e3;have hz3:=n3 _ _ hz;have hB3:But a G G3:=fun x o hx e=>n3 _ _ (hB x o hx e);have rdA3:Rd G3 a (.dK k1):=.inr ⟨o,hz3⟩;have rdB3:Rd G3 b (.dK k2):=.inl (hB3 _ _ (A1e hab) h2G);have wA3:=wA.stay (K:=K) (H':=G3) fun y ys s=>n3.tup s;have wB3:=wB.stay (K:=K) (H':=G3) fun y ys s=>n3.tup s;fail"go";obtain⟨t4,d4,s4⟩:=wB3.dget rdB3 hcw;refine⟨b,_,rfl,d4,?_⟩;fail"go";obtain⟨t5,d5,s5⟩:=wA3.dget rdA3 hf;refine⟨a,_,rfl,d5,?_⟩;fail"go";refine⟨t4,t5,_,_,rfl,s4,s5,bd _,bd _,fun t6 G6 n6 e6=>?_⟩;refine rEqD_2 (n6.tup f3) (SqT.of e6) ?_;rw[decide_eq_true rfl];fail"go";refine⟨fun x o hx e=>n6 _ _ (hB3 x o hx e),n6 _ _ hz3,?_⟩;rw[B2d,A1b];rfl
 ·rintro o ys H' ⟨hB,hz,rfl⟩ p hp;have hpa:p≠a:=fun z=>by rw[z,hz] at hp;cases hp
  fail"go"
  have S1:a2f H (upd (upd H' p (.lst ((A4b k1.length true).map V.bl))) a (.dK k1)):=fun x o' e=>by
   by_cases hx:x=a
   ·subst hx;rw[h1] at e;rw[a0b];exact e
   ·rw[a0q hx];exact a0c hp _ _ _ (hB x o' hx (S0 _ _ e))
  refine⟨p,_,rfl,SqL.of (by rw[a0q hpa];exact a0b),?_⟩;have e:(A4b k1.length true).all id=true:=by simp
  rw[e];exact q _ S1
include T_M b7a in theorem d4e (F:Fun K "rows" "Signs.rows" b6a f fd):a2k P w K mg base CX0 1 f fd ["self"] (c0h K a5b):=by
 refine F.ok d5w (by fail"ln") ?_;fail"fi";obtain⟨x,n,rs,rfl,⟨dx,a,xs,hx,ha,hR⟩,hl,q⟩:=h;refine⟨_,(a0m (a0x (b5u c1u rfl b7a c8p (a0a (a2g (pv 0) rfl) a0j)))),?_⟩;fail"st";fail"go";refine a1m hx (T_M.cl .sg) (T_M.n_kept .sg) rfl ?_;fail"go";refine⟨a,xs,rfl,.inl (SqL.of ha),fun p hp=>?_⟩;fail"go";exact q p xs _ (a0c hp _) hp a0b (hR.stay fun y ys s=>a0c hp _ _ _ s)
include a6w in theorem c4g (F:Fun K "_law_quarters" "_law_quarters" a9y f fd):a2k P w K mg base CX0 1 f fd ["_law_number","_law_quarters_here"] (b4j K):=by
 refine F.ok a4b (by fail"ln") ?_;fail"fi";obtain⟨a,o,p,rfl,ha,q⟩:=h
 refine⟨_,(a0d (ps_asg (pv 0) (b5f rfl (a2e (a2a (i:=2) a4b.nd rfl (Or.inl rfl)) (a2e (a2a (i:=3) a4b.nd rfl (Or.inl rfl)) b0v))))
   (a0d (b0e A1y rfl (b5y rfl a6w (a0a (a0t a4n (pv 1) a0k) a0j)) (a2a (i:=4) a4b.nd rfl (Or.inl rfl)) (a0m (ps_par (i:=2) (j:=3) rfl a4b.nd rfl rfl (by decide) rfl rfl (a0a (a0t b7q a0k (pv 3)) (a0a (pv 2) a0j)) rfl)))
   (a0m (a0x (a2h (a0a (pv 2) (a0a (pv 3) a0j))))))),?_⟩
 fail"st";have em:(o:Int)%4=((o%4:Nat):Int):=by omega
 fail"go";refine c2v (n:=o%4) (by omega) (fun P h=>?_) (fun i σ H'=>∃(u:Option V),σ=[some (.ref a),some (.int (o:Int)),some (.int (a2q i p).1),some (.int (a2q i p).2),u]/\a2f H H') ⟨_,rfl,a2f.refl _⟩ ?_ ?_
 ·fail"go"
  first|exact h|(rw[em];exact h)
 ·rintro i σ H' hi ⟨u,rfl,hS⟩;refine st_par ?_;fail"go";refine⟨_,_,rfl,?_⟩;show ∃u,_/\_;rw[turn_step];exact⟨_,rfl,hS⟩
 ·rintro σ H' ⟨u,rfl,hS⟩;rw[<- turn_mod4 o p] at q;fail"go";rename_i t ht;exact q t _ (hS.trans (a0c ht _)) a0b
theorem ok__law_ones (F:Fun K "_law_ones" "_law_ones" b8t f fd):a2k P w K mg base CX0 1 f fd ["_law_number"] (c2w K):=by
 refine F.ok b1t (by fail"ln") ?_;fail"fi";obtain⟨n,rfl,q⟩:=h
 refine⟨_,(a0d (a1k 1 b1t.nd a0k)
   (a0d (ps_while A1y (a1b op_gt (pv 0) a0k (a1j _)) (a0d (a1k 0 b1t.nd (a0t a5h (pv 0) (a0t b7q (pv 0) a0k)))
   (a0m (a1k 1 b1t.nd (a0t a3v (pv 1) a0k)))))
   (a0m (a0x (pv 1))))),?_⟩
 fail"go";refine⟨fun m σ H'=>∃k r:Nat,σ=[some (.int r),some (.int k)]/\H'=H/\m=r/\k+pop r=pop n,⟨n,0,n,rfl,rfl,rfl,by omega⟩,?_⟩;rintro m σ H' ⟨k,r,rfl,rfl,rfl,e⟩;fail"go";refine b4m (fun c=>?_) (fun c=>?_)
 ·have c':0<m:=by omega
  refine⟨fun σ' H1=>∃k r:Nat,σ'=[some (.int r),some (.int k)]/\H1=H'/\r<m/\k+pop r=pop n,fun σ' H1 ⟨k,r,e1,e2,e3,e4⟩=>⟨r,e3,k,r,e1,e2,rfl,e4⟩,?_⟩;fail"go";rw[d0m c'];have:=pop_pred m c';exact⟨k+1,m&&&(m-1),rfl,rfl,c9y c',by omega⟩
 ·have c':m=0:=by omega
  subst c';rw[a7z,Nat.add_zero] at e;subst e;fail"go";exact q
include a6u b0t in theorem d5r (F:Fun K "_law_acted" "_law_acted" b4p f fd):a2k P w K mg base CX0 2 f fd ["_law_whole","_law_row"] (b9h K):=by
 refine F.ok a3j (by fail"ln") ?_;fail"fi";obtain⟨a,w,ws,r,rfl,⟨kvs,ha,hWR⟩,ok,hl,hw,q⟩:=h
 refine⟨_,(a0d (ps_asg (pv 1) (b5f rfl (a2e (a2a (i:=2) a3j.nd rfl (Or.inl rfl)) (a2e (a2a (i:=3) a3j.nd rfl (Or.inl rfl)) (a2e (a2a (i:=4) a3j.nd rfl (Or.inl rfl)) b0v)))))
   (a0d (a1k 5 a3j.nd b6c)
   (a0d (b8d (b0e A1y rfl (b3e (pv 0)) (b5f rfl (a2e (a2a (i:=6) a3j.nd rfl (Or.inl rfl)) (a2e (a2a (i:=7) a3j.nd rfl (Or.inl rfl)) b0v))) (a0d (a1k 8 a3j.nd (a0t a3v (a0t op_mul a0k (a0t a3v (pv 2) (a0y b0t hr a0u (a0a (a0t a5h (pv 6) (pv 4)) a0j)))) (a0y b0t hr a0u (a0a (a0t a5h (pv 3) (pv 4)) a0j))))
   (a0m (c1g (c7b hr) (pv 5) (a0t a3s (pv 6) (pv 3)) (a0y a6u hr a0u (a0a (pv 7) (a0a (pv 8) a0j))) rfl)))))
   (a0m (a0x (pv 5)))))),?_⟩
 fail"st";have hwU:=hw;unfold Row.V at hwU;fail"go";rename_i p hp;have hpa:p≠a:=A1e (a0p ha hp);refine a4v (fun P h=>⟨_,rfl,h⟩) (a0c hp _ _ _ ha) (fun o i σ H'=>∃(u0 u1 u2:Option V) (kvs':List (Key×V)),σ=[some (.ref a),some (.ref w),some (.int r.m),some (.int r.x),some (.int r.z),some (.ref p),u0,u1,u2]/\H' a=some (.frz o (.dK kvs))/\H' p=some (.dK kvs')/\WR K H' ((ws.take i).map (tE r)) kvs'/\But a H H') ?_ ?_ ?_ ?_
 ·intro o;refine⟨none,none,none,[],rfl,a0b,by rw[a0q hpa];exact a0b,.nil,fun c o' hc e=>?_⟩;rw[a0q hc];exact a0c hp _ _ _ e
 ·rintro o i σ H' ⟨u0,u1,u2,kvs',_,h1,_⟩;exact h1
 ·rintro o i k v σ H' x hget ⟨u0,u1,u2,kvs',rfl,h1,h2,h3,h5⟩ hx;obtain⟨b,pp,a',e1,rfl,rfl,sq⟩:=hWR.get hget;have hil:i<ws.length:=(List.getElem?_eq_some_iff.mp e1).1;have sq':SqT K (upd H' x (.tup [kV (.inl ((b:Nat):Int)),.ref a'])) a' [.int pp.1,.int pp.2]:=(a0c hx _).tup (h5.tup ha _ _ sq);have hw':=(a0c hx (.tup [kV (.inl ((b:Nat):Int)),.ref a'])).tup (h5.tup ha _ _ hw);have hp2:=a0c hx (.tup [kV (.inl ((b:Nat):Int)),.ref a']) _ _ h2;have ha2:=a0c hx (.tup [kV (.inl ((b:Nat):Int)),.ref a']) _ _ h1;have hB2:But a H (upd H' x (.tup [kV (.inl ((b:Nat):Int)),.ref a'])):=fun c o' hc e=>a0c hx _ _ _ (h5 _ _ hc e);have h3':=h3.stay (K:=K) (H':=upd H' x (.tup [kV (.inl ((b:Nat):Int)),.ref a'])) (fun y ys s=>(a0c hx _).tup s);have ht0:SqT K (upd H' x (.tup [kV (.inl ((b:Nat):Int)),.ref a'])) x [.int ((b:Nat):Int),.ref a']:=SqT.of a0b;generalize upd H' x (.tup [kV (.inl ((b:Nat):Int)),.ref a'])=G at sq' hw' hp2 ha2 hB2 h3' ht0 ⊢;have hw2:=hw';unfold Row.V at hw2;fail"go";refine⟨_,rfl,?_⟩;fail"go";refine⟨_,rfl,?_⟩
  have e2:(2:Int)*((r.m:Int)+((pop (b&&&r.z):Nat):Int))+((pop (r.x&&&r.z):Nat):Int)=((trn r b:Nat):Int):=by
   unfold trn;rw[A0v b];push_cast;omega
  fail"go";rw[e2];refine⟨a',trn r b,pp,rfl,sq',fun t G2 hS2 ht2=>?_⟩;fail"go";have hpG:=hS2 _ _ hp2;have h3G:=h3'.stay (K:=K) (H':=G2) fun y ys s=>hS2.tup s;have hB:But p G2 (upd G2 p (.dK (c5r kvs' (.inl ((b^^^r.x:Nat):Int)) (.ref t)))):=But.upd;have hlen:=h3'.len;rw[A0c,A0u] at hlen;refine⟨p,_,rfl,c8t hpG (by omega),_,_,_,_,rfl,hB _ _ (A1e hpa) (hS2 _ _ ha2),a0b,?_,fun c o' hc e=>hB _ _ (a0p e hp) (hS2 _ _ (hB2 _ _ hc e))⟩;rw[tE_step ok e1];exact(h3G.stay (fun y ys s=>hB.tup hpG y ys s)).put (hB.tup hpG _ _ (SqT.of ht2))
 ·rintro o σ H' ⟨u0,u1,u2,kvs',rfl,h1,h2,h3,h5⟩;fail"go";rw[hWR.len,A1h] at h3;refine q p _ (fun c o' e=>?_) hp ⟨kvs',by rw[a0q hpa];exact h2,h3.stay (b8h h1)⟩
  by_cases hc:c=a
  ·subst hc;rw[ha] at e;rw[a0b];exact e
  ·rw[a0q hc];exact h5 _ _ hc e
include a8j c6g b1e in theorem ok__law_left (F:Fun K "_law_left" "_law_left" b3t f fd):a2k P w K mg base CX0 3 f fd ["_law_exact","_law_signs_here"] (c3f K a5b):=by
 refine F.ok b4y (by fail"ln") ?_;fail"fi";obtain⟨x,y,n,k,s,rfl,hE,hS,jt,hk,hn,q⟩:=h;have wl:=jt.wn.len hn
 refine⟨_,(a0d (b2w (i:=2) b4y.nd rfl (Or.inr rfl) (c8e a8j hr a0u (pv 0)))
   (a0m (a0x (b5w (op_eqD (b3g hr)) (a8q (sc:=a0f b3t) rfl (by fail"k5") (by show ("_law_row":Str)∉(["_law_exact","_law_signs_here","_law_whole"]:List Str);decide +kernel) (by show (".0":Str)∉(["_law_exact","_law_signs_here","_law_whole"]:List Str);decide +kernel) b4y.nd rfl (a5m (c8e c6g hr a0u (pv 1))) (fun _ _ _ _=>(d6q (a1b (op_neMK (K:=K) rfl (b3g hr)) (a0y b1e hr a0u (a0a (pv 3) (a0a (pv 0) a0j))) (pv 3) (a1j _)))) (fun _ _ _ _=>(pv 0))) (a8e a0j) (a1j _))))),?_⟩
 fail"st";fail"go";obtain⟨a,hE1,hW⟩:=hE;obtain⟨dx,hx⟩:=id hE1;refine a4q (d:=()) hx rfl ?_;fail"go";refine⟨x,a,n,s.ws,rfl,hE1,hW,fun p1 H1 S1 hp1 hW1=>?_⟩;fail"go";obtain⟨dy,a2,xs2,hy,ha2,hR2⟩:=c6k.stay hS S1;refine st_cpE ?_;fail"go";refine a4q (d:=()) hy rfl ?_;fail"go";refine⟨y,n,s.rs,rfl,c6k.stay hS S1,by rw[jt.kp.len];omega,fun p2 xs3 H2 S2 hp2 e2 hR3=>?_⟩;have lx:xs3.length<=10:=by rw[hR3.len,jt.kp.len];omega
 have hW2:=hW1.stay S2;refine st_cpAt (SqL.of e2) (fun i ys H'=>a2f H2 H'/\ys=[]) (by omega) ⟨a2f.refl _,rfl⟩ ?_ ?_ ?_ ?_
 ·rintro i ys H' ⟨_,rfl⟩;simp
 ·rintro i ys H' ⟨hS3,_⟩;exact SqL.of (hS3 _ _ e2)
 ·rintro i x ys H' hget ⟨hS3,rfl⟩;obtain⟨r,t,e1,rfl,sq⟩:=hR3.get hget;obtain⟨k2,k3⟩:=jt.same (List.mem_of_getElem? e1);fail"go";refine⟨p1,t,s.ws,r,rfl,hW2.stay hS3,jt.wn.nd,by omega,SqT.of (hS3 _ _ sq),fun p3 H3 hS5 hp3 hW3=>?_⟩;fail"go";refine whAt_neS hW3 ((hW2.stay hS3).stay hS5) k2 jt.wn.nd k3 ?_;fail"go";exact⟨hS3.trans hS5,rfl⟩
 rintro ys H3 ⟨hS3,rfl⟩ p3 hp3;fail"go";rename_i p4 hp4;refine rEqD_intsL (is:=[]) (js:=[]) (SqL.of (a0c hp4 _ _ _ a0b)) (SqL.of a0b) ?_;exact q _ ((((S1.trans S2).trans hS3).trans (a0c hp3 (.lst []))).trans (a0c hp4 (.lst [])))
include c8w b3x in theorem ok__law_step (F:Fun K "_law_step" "_law_step" b7u f fd):a2k P w K mg base CX0 8 f fd ["_law_machine","_law_words_here","_law_draw"] (c2y K a5b b1a a0g a0e a0h a0n):=by
 refine F.ok sc__law_step (by fail"ln") ?_;fail"fi";obtain⟨x,w,f,rfl,d,lb,n,k,kd,s,bs,st,hM,jt,h0,hn,hw,ok,hT,hf,hd,q⟩:=h
 refine⟨_,(a0d (a3t (a1b op_ne (a0v a0s (pv 1) a0k) a3m (a1j _)) (a0d (a2y (c2q c8w hr a0u (pv 0) (a0a (pv 1) a0j)))
   (a0m (a0x (a8e a0j)))) a1q)
   (a0m (a0x (a8e (a0a (c2q b3x hr a0u (pv 0) (a0a (a2h (a0a a0k (a0a (a0v a0s (pv 1) a0k) (a0a (a0v a0s (pv 1) a0k) a0j)))) (a0a (pv 2) a0j))) a0j))))),?_⟩
 fail"st";have nxd:=b3q hM hd;obtain⟨dx1,hd0⟩:=hd.ins
 cases st with
 | dd dd'=>
  have hw0:H w=some (.tup (.str dd'.k.word::vn dd'.w)):=hw;have hw':SqT K H w (.str dd'.k.word::vn dd'.w):=SqT.of hw0;have ok2:dd'.Ok n:=ok;fail"go";rw[decide_eq_false (word_look dd')];fail"go"
  cases kd with
  | ex=>
   obtain⟨a1,hE,hW⟩:=hM;obtain⟨dx,hx⟩:=id hE;have wl:=jt.wn.len hn;refine a4q (d:=MK.ex) hx rfl ?_;fail"go";refine⟨x,.ref w,n,rfl,hn,.inl ⟨w,dd',rfl,hw0,ok2,.inl ⟨a1,s.ws,hE,hW,jt.wn.nd,by omega,hT,fun p H4 hB4 hT4 hp4 hE4 hW4=>?_⟩⟩⟩;have kn4:Kn H H4:=fun c o e m1 m2=>hB4 c o (fun z=>by rw[z,hx] at e;exact m1 _ _ _ (A0j e).symm) e m2;have hd4:=kn4.dl hd (fun o e=>by rw[hd0] at e;rw[<- e];exact hB4 _ _ nxd.symm hd0 (by intro ps z;cases z));fail"go";rename_i p5 hp5;have n5:=a0c hp5 (.lst []);exact q p5 [] [] _ (fun c o hc hc2 e nt=>n5 _ _ (hB4 _ _ hc e nt)) (hT4.to n5) ⟨p,hE4.stay n5,hW4.stay n5⟩ (hd4.stay n5) a0b (by decide) (by rw[A3v];rfl) .nil
  | sg=>
   obtain⟨dx,a2,xs2,hx,ha2,hR2⟩:=id hM;refine a4q (d:=MK.sg) hx rfl ?_;fail"go";refine⟨x,.ref w,n,rfl,hn,.inl ⟨w,dd',rfl,hw0,ok2,.inr ⟨s.rs,hM,by rw[jt.kp.len];omega,fun H4 hB4 hS4=>?_⟩⟩⟩;have kn4:Kn H H4:=fun c o e m1 m2=>hB4 c o (fun z=>by rw[z,hx] at e;exact m1 _ _ _ (A0j e).symm) e;have hd4:=kn4.dl hd (fun o e=>hB4 _ _ nxd.symm e);fail"go";rename_i p5 hp5;have n5:=a0c hp5 (.lst []);exact q p5 [] [] _ (fun c o hc hc2 e nt=>n5 _ _ (hB4 _ _ hc e)) ((d0j hT hB4 hx).to n5) (c6k.stay hS4 n5) (hd4.stay n5) a0b (by decide) (by rw[A3v];rfl) .nil
 | lk xx zz=>
  have hw0:H w=some (.tup [.str "look",.int (xx:Int),.int (zz:Int)]):=hw;have hw':SqT K H w [.str "look",.int (xx:Int),.int (zz:Int)]:=SqT.of hw0;have ok3:xx<2^n/\zz<2^n/\¬(xx=0/\zz=0):=ok;fail"go";rw[decide_eq_true rfl];fail"go";refine mth_Mn hM.mn (fun _=>⟨rfl,rfl⟩) fun d0=>?_;fail"go";rename_i p hp;have S3:=a0c hp (.tup [.int 0,.int (xx:Int),.int (zz:Int)]);have f3:(upd H p (.tup [.int 0,.int (xx:Int),.int (zz:Int)])) p=some (.tup (⟨0,xx,zz⟩:Row).V):=a0b;generalize upd H p (.tup [.int 0,.int (xx:Int),.int (zz:Int)])=H3 at S3 f3 ⊢;have hM3:=hM.stay S3;obtain⟨dx,a3,y3,hx⟩:=hM3.wires;obtain⟨dxd,hdd⟩:=(hd.stay S3).ins;refine⟨x,p,f,rfl,d,lb,n,k,kd,s,xx,zz,bs,hM3,jt,hn,f3,ok3.1,ok3.2.1,ok3.2.2,hf.stay S3,hd.stay S3,fun pq v H4 hB4 hM4 hd4 hv hq4=>?_⟩;fail"go";rename_i p5 hp5;have n5:=a0c hp5 (.lst [.ref pq]);exact q p5 [pq] [v] _ (fun c o hc hc2 e nt=>n5 _ _ (hB4 _ _ hc hc2 (S3 _ _ e))) ((tabs_but2 (hT.to S3) hB4 hx hdd).to n5) (hM4.stay n5) (hd4.stay n5) a0b (A0f _) hv (.cons (n5 _ _ hq4) .nil)
include T_M a6w a0z a8j c9p c7n a3p b2s b6n a5z b1f a9u b3y in theorem ok_law (F:Fun K "law" "law" c8f f fd):a2k P w K mg base CX0 9 f fd ["_law_script"] (sp_law K a0g a0e a0h a0n):=by
 refine F.ok b1r (by fail"ln") ?_;fail"fi";obtain⟨a,ns,rfl,ha,hns,hT,q⟩:=h
 refine⟨_,(a0d (b2w (i:=1) b1r.nd rfl (Or.inr rfl) (a0t a3v a0k (a0t a4n (a0y a3p hr a0u (a0a (pv 0) (a0a a0k a0j))) a0k)))
   (a0d (ps_setC (i:=2) rfl (Or.inl rfl) (sc:=a0f c8f) rfl (by fail"k5") (by show ("_law_draw":Str)∉(["_law_script","_law_n","_law_work","_law_number","_law_numbers","_law_exact","_law_signs_here","_law_found","_law_others","_law_draws","_law_told","_law_words_here","_law_k"]:List Str);decide +kernel) (by show (".0":Str)∉(["_law_script","_law_n","_law_work","_law_number","_law_numbers","_law_exact","_law_signs_here","_law_found","_law_others","_law_draws","_law_told","_law_words_here","_law_k"]:List Str);decide +kernel) b1r.nd rfl (a5m (c6e sl_list (pv 0) (c6w a0k) (c6w a0k))) (fun _ _ _ _=>a8v) (fun _ _ _ _=>(a0y b6n hr a0u (a0a (pv 0) (a0a (pv 2) a0j)))))
   (a0d (a3t (PW.pt (pw_and (a1b a8r (a0t a4n (a0t c5x (a0y a3p hr a0u (a0a (pv 0) (a0a a0k a0j))) a0k) a0k) a0k (a1j _)) (d3x (a1b op_lt (pv 1) a0k (a1j _))))) (a0m (a1k 2 b1r.nd (a0t op_cat (pv 2) (pe_slice3V (pv 2) c8c c8c (pe_un d2u a0k))))) a1q)
   (a0d (b2w (i:=3) b1r.nd rfl (Or.inr rfl) (a0y a3p hr a0u (a0a (pv 0) (a0a a0k a0j))))
   (a0d (ps_setCS (i:=4) rfl (Or.inl rfl) (sc:=a0f c8f) ["_law_script","_law_n","_law_work","_law_number","_law_numbers","_law_exact","_law_signs_here","_law_found","_law_others","_law_draws","_law_told","_law_words_here","?12"] ["_law_script","_law_n","_law_work","_law_number","_law_numbers","_law_exact","_law_signs_here","_law_found","_law_others","_law_draws","_law_told","_law_words_here","_law_k"] rfl rfl (by fail"k5") (by show ("_law_k":Str)∉(["_law_script","_law_n","_law_work","_law_number","_law_numbers","_law_exact","_law_signs_here","_law_found","_law_others","_law_draws","_law_told","_law_words_here","?12"]:List Str);decide +kernel) (by show (".0":Str)∉(["_law_script","_law_n","_law_work","_law_number","_law_numbers","_law_exact","_law_signs_here","_law_found","_law_others","_law_draws","_law_told","_law_words_here","?12"]:List Str);decide +kernel) b1r.nd (by decide +kernel) rfl (by decide +kernel) rfl (b5y rfl a6w (a0a (a0t a4n (a0y a3p hr a0u (a0a (pv 0) (a0a a0k a0j))) a0k) a0j)) (fun _ _ _ _=>a8v) (fun _ _ _ _=>(a0y a0z hr a0u (a0a (pv 4) (a0a (pv 0) a0j)))))
   (a0d (a1k 5 b1r.nd (b4c c9p hr a0u (a0a (pv 1) a0j)))
   (a0d (a1k 6 b1r.nd (b4c c7n hr a0u (a0a (pv 1) a0j)))
   (a0d (a1k 7 b1r.nd (a0y b2s hr a0u (a0a (pv 5) (a0a (pv 2) (a0a (a0y a5z hr a0u (a0a (pv 4) a0j)) a0j)))))
   (a0d (a3t (PW.pt (d6c (a1b (op_neD (b3g hr)) (a0y b2s hr a0u (a0a (pv 6) (a0a (pv 2) (a0a (a0y a5z hr a0u (a0a (pv 4) a0j)) a0j)))) (pv 7) (a1j _)) (c3h (b4g (b0h (a0y a9u hr a0u (a0a (pv 5) (a0a (pv 6) a0j)))))))) (a0m (a0x pe_bl)) a1q)
   (a0d (a1k 8 b1r.nd (a8e (a0a (b4c c9p hr a0u (a0a (pv 1) a0j)) (a0a (b4c c7n hr a0u (a0a (pv 1) a0j)) a0j))))
   (a0d (a1k 9 b1r.nd (a8e (a0a (a0y a5z hr a0u (a0a (pv 4) a0j)) (a0a (a0y a5z hr a0u (a0a (pv 4) a0j)) a0j))))
   (a0d (a1k 10 b1r.nd (a8e (a0a (a8e a0j) (a0a (a8e a0j) a0j))))
   (a0d (b0e A1y rfl (a5m (pv 2)) (a2a (i:=11) b1r.nd rfl (Or.inl rfl)) (a0d (b0e A1y rfl (b5y rfl a6w (a0a a0k a0j)) (a2a (i:=12) b1r.nd rfl (Or.inl rfl)) (a0m (ps_lput (pv 10) (pv 12) (a0t op_cat (a0v a7q (pv 10) (pv 12)) (a0y b3y hr a0u (a0a (a0v a7q (pv 8) (pv 12)) (a0a (pv 11) (a0a (a0v a7q (pv 9) (pv 12)) a0j))))) rfl)))
   (a0m (a3t (b4g (b0h (a0y a9u hr a0u (a0a (a0v a7q (pv 8) a0k) (a0a (a0v a7q (pv 8) a0k) a0j))))) (a0m (a0x pe_bl)) a1q))))
   (a0m (a0x (pe_and (b5w (op_eqD (b3g hr)) (pv 10) (a8e (a0a (pv 7) (a0a (pv 7) a0j))) (a1j _)) (pe_one (a0y b1f hr a0u (a0a (c8e a8j hr a0u (a0v a7q (pv 8) a0k)) (a0a (c8e a8j hr a0u (pv 5)) a0j)))))))))))))))))))),?_⟩
 fail"st";fail"go";refine⟨a,0,ns,rfl,ha,fun c0=>?_⟩;obtain⟨n,en,h0,h6i⟩:=one_mod c0 6 (by decide) (by decide);have h6:n<=6:=by omega
 fail"go";rw[en];fail"go";refine st_cqE ?_;fail"go";rename_i ps hps;obtain⟨ms,ems,lms⟩:=cut_intsG ns 3 33;rw[show cutV (ns.map V.int) (some 3) (some 33)=ms.map V.int from ems];have S0:a2f H (upd H ps (.lst (ms.map V.int))):=a0c hps _;have f0:(upd H ps (.lst (ms.map V.int))) ps=some (.lst (ms.map V.int)):=a0b;generalize upd H ps (.lst (ms.map V.int))=G0 at S0 f0 ⊢;refine c9f (SqL.of f0) (fun i ys H'=>a2f G0 H'/\∃as ss,ys=refs as/\a4a (c9w H') as ss/\(∀s∈ss,s.Ok n)/\as.length<=i) (by rw[A0c];omega) ⟨a2f.refl _,[],[],rfl,.nil,(fun _ z=>absurd z A2z),A0f _⟩ ?_ ?_ ?_ ?_
 ·rintro i ys H' ⟨_,as,ss,rfl,_,_,e⟩;rw[a1r];exact e
 ·rintro i ys H' ⟨s1,_⟩;exact SqL.of (s1 _ _ f0)
 ·rintro i x ys H' hx ⟨s1,as,ss,rfl,hA,hok,hl⟩;obtain⟨c,rfl⟩:=int_get hx;refine d2s ?_;fail"go";refine⟨c,n,rfl,h0,by omega,fun p H2 s2 hS2 hst ok=>?_⟩;fail"go";refine⟨s1.trans hS2,as++[p],ss++[s2],a7a _ _,(hA.mono fun a d (e:c9w H' a d)=>hS2 _ _ e).snoc hst,fun s hs=>?_,by rw[A0s];show _+1<=_;omega⟩
  rcases A1q.1 hs with hs|hs
  ·exact hok s hs
  ·rw[A0t.1 hs];exact ok
 rintro ys H1 ⟨s1,as,ss,rfl,hA,hok,hlen⟩ p1 hp1;rw[A0c] at hlen;have las:as.length<=30:=by omega
 have S1:=(S0.trans s1).trans (a0c hp1 (.lst (refs as)));have f1:(upd H1 p1 (.lst (refs as))) p1=some (.lst (refs as)):=a0b;have hA1:a4a (c9w (upd H1 p1 (.lst (refs as)))) as ss:=hA.mono fun a d (e:c9w H1 a d)=>a0c hp1 (.lst (refs as)) _ _ e;generalize upd H1 p1 (.lst (refs as))=G1 at S1 f1 hA1 ⊢;clear hA s1 S0 f0 hps hp1;have ha1:=S1.seq ha;have sl1:SqL K G1 p1 (refs as):=SqL.of f1;fail"go";refine⟨a,0,ns,rfl,ha1,fun c9=>?_⟩;fail"go";have hP0:a2f H G1/\∃as ss,G1 p1=some (.lst (refs as))/\as.length<=60/\a4a (c9w G1) as ss/\∀s∈ss,s.Ok n:=⟨S1,as,ss,f1,by omega,hA1,hok⟩;apply join2 (P:=fun p G=>a2f H G/\∃as ss,G p=some (.lst (refs as))/\as.length<=60/\a4a (c9w G) as ss/\∀s∈ss,s.Ok n)
 case h1=>
  intro key;refine b4m (fun cm=>?_) (fun cm=>?_)
  ·fail"gq";refine b4m (fun cm2=>?_) (fun cm2=>?_)
   ·fail"gq";refine st_sl3V ?_;fail"gq";refine⟨by decide,p1,refs as,rfl,sl1,fun pr ys hpr hlr hmem=>?_⟩;obtain⟨bs,ts,rfl,hB,hkB⟩:=c9w.pick hA1 hok ys hmem;rw[a1r,a1r] at hlr;refine st_cat (a0c hpr _ _ _ f1) a0b (by rw[a1r,a1r];omega) fun pq hpq=>?_;have S9:=(a0c hpr (.lst (refs bs))).trans (a0c hpq (.lst (refs as++refs bs)))
    have f9:(upd (upd G1 pr (.lst (refs bs))) pq (.lst (refs as++refs bs))) pq=some (.lst (refs (as++bs))):=by
     rw[a0b];exact congrArg (fun l=>some (HO.lst l)) List.map_append.symm
    generalize upd (upd G1 pr (.lst (refs bs))) pq (.lst (refs as++refs bs))=G9 at S9 f9 ⊢
    have hP:a2f H G9/\∃as ss,G9 pq=some (.lst (refs as))/\as.length<=60/\a4a (c9w G9) as ss/\∀s∈ss,s.Ok n:=by
     refine⟨S1.trans S9,as++bs,ss++ts,f9,by rw[A0s];omega,(hA1.app hB).mono fun a d (e:c9w G1 a d)=>S9 _ _ e,fun s hs=>?_⟩
     rcases A1q.1 hs with hs|hs
     ·exact hok s hs
     ·exact hkB s hs
    clear S9 f9;fail"gq";rw[List.set_set];exact key pq G9 hP
   ·fail"gq";have hP:=hP0;generalize p1=p9 at hP ⊢;generalize G1=G9 at hP ⊢;exact key p9 G9 hP
  ·fail"gq";have hP:=hP0;generalize p1=p9 at hP ⊢;generalize G1=G9 at hP ⊢;exact key p9 G9 hP
 case h2=>
  clear hP0 hA1 hok f1 sl1 las hlen ha1 S1 lms ems;clear p1 as ss G1;rintro p2 G2 ⟨S2,as,ss,f2,las,hA2,hok⟩;have ha2:=S2.seq ha;have T2:=hT.to S2;fail"go";refine⟨a,1,ns,rfl,ha2,fun c1=>?_⟩;fail"go";refine st_crE ?_;fail"go";refine⟨a,2,ns,rfl,ha2,fun c2=>?_⟩;fail"go";obtain⟨m,em,hm⟩:=b9c c2 (n:=61) (by decide);rw[show c2%61=(m:Int) from em];refine b3v (n:=m) (by omega) (fun P h=>h) (fun i ys H'=>H'=G2/\∃N:List Int,ys=N.map V.int/\N.length=i) ⟨rfl,[],rfl,rfl⟩ ?_ ?_ ?_
  ·rintro i ys H' ⟨_,N,rfl,e⟩;rw[A0c,e];exact A0f _
  ·rintro i ys H' hi ⟨rfl,N,rfl,e⟩;refine d2s ?_;fail"go";refine⟨c1,i,rfl,by omega,fun v hv=>?_⟩;fail"go";exact⟨rfl,N++[(v:Int)],by rw[A1b];rfl,by rw[A0s,e];rfl⟩
  rintro ys H' ⟨rfl,N,rfl,lN⟩ pn hpn;have S3:=a0c hpn (.lst (N.map V.int));have fn:(upd H' pn (.lst (N.map V.int))) pn=some (.lst (N.map V.int)):=a0b;generalize upd H' pn (.lst (N.map V.int))=G3 at S3 fn ⊢;have f3:=S3 _ _ f2;have hA3:a4a (c9w G3) as ss:=hA2.mono fun a d (e:c9w H' a d)=>S3 _ _ e;have T3:=T2.to S3;clear ha ha2 T2 hT hA2 f2 S2 S3 hpn hns;fail"go";intro x0 dx0 hx0 hdx0 hne0;refine⟨x0,_,rfl,dx0,a0b,.inl ⟨n,rfl,h0,by omega,fun a0 G4 hB1 hz1 hE1 hW1=>⟨rfl,?_⟩⟩⟩;have S6:a2f G3 G4:=fun c o e=>hB1 _ _ (a0p e hx0) (b2u hx0 hdx0 _ _ e);fail"go";intro x1 dx1 hx1 hdx1 hne1;refine⟨x1,_,rfl,dx1,a0b,.inl ⟨n,rfl,h0,by omega,fun G5 hB2 hE2=>⟨rfl,?_⟩⟩⟩;have S7:a2f G4 G5:=fun c o e=>hB2 _ _ (a0p e hx1) (b2u hx1 hdx1 _ _ e);have hx01:x1≠x0:=fun z=>by obtain⟨_,e⟩:=hE1;rw[<- z,hx1] at e;cases e
  obtain⟨s0,es0⟩:∃s0:JS,s0=⟨[(0,(1,0))],starts n,0,[]⟩:=⟨_,rfl⟩;obtain⟨bs,ebs⟩:∃bs,bs=N.map fun i=>(i%2).toNat:=⟨_,rfl⟩;have M0:Md K a5b G5 x0 n .ex s0:=by rw[es0];exact⟨a0,hE1.stay S7,hW1.stay S7⟩
  have M1:Md K a5b G5 x1 n .sg s0:=by rw[es0];exact hE2
  have jt0:Jt n 0 s0.ws s0.rs:=by rw[es0];exact Jt.start n
  have K5:Kn G3 G5:=Kn.of (S6.trans S7);have T5:=(T3.to S6).to S7;clear hB1 hB2 hE1 hE2 hW1 S6 S7 hx0 hx1 hdx0 hdx1 hne0 hne1 T3 hz1;fail"go";refine⟨pn,N,rfl,SqL.of (K5.ls fn),by omega,T5,fun fA dA lA G6 s6 T6 kf6 kd6 kl6 rA bA=>?_⟩;rw[<- ebs] at bA;fail"go";have M0:=a4t.md s6 M0;have M1:=a4t.md s6 M1;have K6:=K5.trans (a4t.kn s6);have n0A:x0≠dA:=b3q M0 bA;have n1A:x1≠dA:=b3q M1 bA;obtain⟨dy0,ay0,y0,ix0⟩:=M0.wires;obtain⟨dyA,ixA⟩:=bA.ins;have bA':Dl b1a G6 dA lA bs s0.i:=by rw[es0];exact bA
  refine⟨x0,p2,fA,rfl,dA,lA,n,0,.ex,s0,bs,as,ss,M0,jt0,by rw[es0],h0,h6,SqL.of (K6.ls f3),by omega,hA3.mono fun a d (e:c9w G3 a d)=>K6.tp e,hok,T6,rA,bA',fun pf tf G7 B7 T7 M0 _ npf ff hf=>?_⟩;have M1:=B7.md ix0 ixA M1 hx01 n1A;have K7:=K6.trans (B7.kn ix0 ixA);clear B7 ix0 ixA bA bA' rA s6 kf6 kd6 kl6 T6 T5 K6 K5 npf;fail"go";refine⟨pn,N,rfl,SqL.of (K7.ls fn),by omega,T7,fun fB dB lB G8 s8 T8 kf8 kd8 kl8 rB bB=>?_⟩;rw[<- ebs] at bB;fail"go";have M0:=a4t.md s8 M0;have M1:=a4t.md s8 M1;have K8:=K7.trans (a4t.kn s8);have n0B:x0≠dB:=b3q M0 bB;obtain⟨dy1,ay1,y1,ix1⟩:=M1.wires;obtain⟨dyB,ixB⟩:=bB.ins;have bB':Dl b1a G8 dB lB bs s0.i:=by rw[es0];exact bB
  have ff:=(a4t.kn s8).ls ff;have hf:a4a (Tp G8) tf (ss.foldl (a4u bs) s0).ts:=hf.mono fun a d (e:Tp G7 a d)=>(a4t.kn s8).tp e;refine⟨x1,p2,fB,rfl,dB,lB,n,0,.sg,s0,bs,as,ss,M1,jt0,by rw[es0],h0,h6,SqL.of (K8.ls f3),by omega,hA3.mono fun a d (e:c9w G3 a d)=>K8.tp e,hok,T8,rB,bB',fun pg tg G9 B9 T9 M1 _ npg fg hg=>?_⟩;have M0:=B9.md ix1 ixB M0 hx01.symm n0B;have k9:=B9.kn ix1 ixB;have K9:=K8.trans k9;have ff:=k9.ls ff;have hf:a4a (Tp G9) tf (ss.foldl (a4u bs) s0).ts:=hf.mono fun a d (e:Tp G8 a d)=>k9.tp e;clear B9 ix1 ixB bB bB' rB s8 kf8 kd8 kl8 T8 T7 K8 K7 k9 npg;fail"go";refine st_neTp (SqL.of fg) (SqL.of ff) hg hf ?_
  have hbs:∀b∈bs,b<=1:=fun b hb=>by
   rw[ebs] at hb;obtain⟨i,_,rfl⟩:=A1k.1 hb;have:=Int.emod_two_eq i;omega
  have jtf:=Jt.run hbs jt0 hok;rw[<- hA3.len,Nat.zero_add] at jtf;fail"go";refine⟨x0,x1,n,as.length,ss.foldl (a4u bs) s0,rfl,M0,M1,jtf,by omega,h6,fun G10 S10=>?_⟩;have M0:=M0.stay S10;have K10:=K9.trans (Kn.of S10);have T10:=T9.to S10;have ff:=S10 _ _ ff;have hf:a4a (Tp G10) tf (ss.foldl (a4u bs) s0).ts:=hf.mono fun a d (e:Tp G9 a d)=>S10 _ _ e;clear M1 hx01 n1A T9 S10 K9 fg hg;fail"go";intro x2 dx2 hx2 hdx2 hne2;refine⟨x2,_,rfl,dx2,a0b,.inl ⟨n,rfl,h0,by omega,fun a2 G11 hB11 hz11 hE2 hW2=>⟨rfl,?_⟩⟩⟩;have S11:a2f G10 G11:=fun c o e=>hB11 _ _ (a0p e hx2) (b2u hx2 hdx2 _ _ e);have n20:x2≠x0:=fun z=>by obtain⟨_,_,_,e⟩:=M0.wires;rw[<- z,hx2] at e;cases e
  fail"go";intro x3 dx3 hx3 hdx3 hne3;refine⟨x3,_,rfl,dx3,a0b,.inl ⟨n,rfl,h0,by omega,fun G12 hB12 hE3=>⟨rfl,?_⟩⟩⟩;have S12:a2f G11 G12:=fun c o e=>hB12 _ _ (a0p e hx3) (b2u hx3 hdx3 _ _ e);have n30:x3≠x0:=fun z=>by obtain⟨_,_,_,e⟩:=(M0.stay S11).wires;rw[<- z,hx3] at e;cases e
  have n32:x3≠x2:=fun z=>by obtain⟨_,e⟩:=hE2;rw[<- z,hx3] at e;cases e
  have M2:Md K a5b G12 x2 n .ex s0:=by rw[es0];exact⟨a2,hE2.stay S12,hW2.stay S12⟩
  have M3:Md K a5b G12 x3 n .sg s0:=by rw[es0];exact hE3
  have S1:=S11.trans S12;clear hB11 hB12 hz11 hx2 hdx2 hne2 hx3 hdx3 hne3 hE2 hW2 hE3 S11 S12;fail"go";rename_i po hpo;have S13:=a0c hpo (.lst [.ref x2,.ref x3]);have fo:(upd G12 po (.lst [.ref x2,.ref x3])) po=some (.lst [.ref x2,.ref x3]):=a0b;generalize upd G12 po (.lst [.ref x2,.ref x3])=G13 at S13 fo ⊢;have SS:=S1.trans S13;have M0:=M0.stay SS;have M2:=M2.stay S13;have M3:=M3.stay S13;have K13:=K10.trans (Kn.of SS);have T13:=T10.to SS;have ff:=SS _ _ ff;have hf:a4a (Tp G13) tf (ss.foldl (a4u bs) s0).ts:=hf.mono fun a d (e:Tp G10 a d)=>SS _ _ e;clear SS S13 S1 K10 T10 hpo;fail"go";refine⟨pn,N,rfl,SqL.of (K13.ls fn),by omega,T13,fun fC dC lC G14 s14 T14 kf14 kd14 kl14 rC bC=>?_⟩;rw[<- ebs] at bC;fail"go";refine⟨pn,N,rfl,SqL.of ((a4t.kn s14).ls (K13.ls fn)),by omega,T14,fun fD dD lD G15 s15 T15 kf15 kd15 kl15 rD bD=>?_⟩;rw[<- ebs] at bD;have nDC:dD≠dC:=fun z=>by obtain⟨_,e⟩:=bC.ins;rw[<- z,kd15] at e;cases e
  have s1:=s14.trans s15;have M0:=a4t.md s1 M0;have M2:=a4t.md s1 M2;have M3:=a4t.md s1 M3;have K15:=K13.trans (a4t.kn s1);have fo:=(a4t.kn s1).ls fo;have ff:=(a4t.kn s1).ls ff;have hf:a4a (Tp G15) tf (ss.foldl (a4u bs) s0).ts:=hf.mono fun a d (e:Tp G13 a d)=>(a4t.kn s1).tp e;have bC:=a4t.dl s15 bC;have rC:=(a4t.kn s15).dr rC;have n0C:x0≠dC:=b3q M0 bC;have n2C:x2≠dC:=b3q M2 bC;have n3C:x3≠dC:=b3q M3 bC;have n0D:x0≠dD:=b3q M0 bD;have n2D:x2≠dD:=b3q M2 bD;have n3D:x3≠dD:=b3q M3 bD;clear s1 s14 s15 kf14 kd14 kl14 kf15 kd15 kl15 T14 T13 K13;fail"go";rename_i pd hpd q0 hq0 q1 hq1 pt hpt;have U1:=a0c hpd (.lst [.ref fC,.ref fD]);have U2:=a0c hq0 (.lst []);have U3:=a0c hq1 (.lst []);have U4:=a0c hpt (.lst [.ref q0,.ref q1]);have U:=((U1.trans U2).trans U3).trans U4
  have npt:G15 pt=none:=by
   cases e:G15 pt with
   | none=>rfl
   | some o=>rw[((U1.trans U2).trans U3) _ _ e] at hpt;cases hpt
  have fd':=U4 _ _ (U3 _ _ (U2 _ _ (a0b (H:=G15) (a:=pd) (o:=.lst [.ref fC,.ref fD]))))
  have tl0:Tld (upd (upd (upd (upd G15 pd (.lst [.ref fC,.ref fD])) q0 (.lst [])) q1 (.lst [])) pt (.lst [.ref q0,.ref q1])) pt s0 s0:=by
   rw[es0];exact⟨q0,q1,[],[],a0b,U4 _ _ (U3 _ _ a0b),U4 _ _ a0b,.nil,.nil,(fun z=>by rw[<- z,U3 _ _ a0b] at hpt;cases hpt),(fun z=>by rw[<- z,a0b] at hpt;cases hpt)⟩
  have npd:pd≠pt:=fun z=>by rw[<- z,U3 _ _ (U2 _ _ a0b)] at hpt;cases hpt
  generalize upd (upd (upd (upd G15 pd (.lst [.ref fC,.ref fD])) q0 (.lst [])) q1 (.lst [])) pt (.lst [.ref q0,.ref q1])=GG at U fd' tl0 ⊢;have KG:∀c o,G15 c=some o->c≠pt/\GG c=some o:=fun c o e=>⟨a0p e npt,U _ _ e⟩
  have lk0:LK K a5b b1a a0g a0e a0h a0n pt GG n bs x0 x2 x3 fC dC lC fD dD lD (ss.foldl (a4u bs) s0) s0 s0 GG:=
   ⟨n20,n30,n32,nDC,fun c o _ e _ _=>e,T15.to U,M0.stay U,M2.stay U,M3.stay U,rC.stay U,by rw[es0];exact bC.stay U,rD.stay U,by rw[es0];exact bD.stay U⟩
  obtain⟨no1,fo⟩:=KG _ _ fo;obtain⟨nf1,ff⟩:=KG _ _ ff;obtain⟨nw1,fw⟩:=KG _ _ (K15.ls f3);have hAG:a4a (c9w GG) as ss:=hA3.mono fun a d (e:c9w G3 a d)=>U _ _ (K15.tp e)
  have nA:∀a∈as,a≠pt:=fun a ha=>by
   obtain⟨i,hi⟩:=List.mem_iff_getElem?.1 ha;obtain⟨s,_,hs⟩:=hA3.get hi;exact a0p (K15.tp hs) npt
  have hf:a4a (Tp GG) tf (ss.foldl (a4u bs) s0).ts:=hf.mono fun a d (e:Tp G15 a d)=>U _ _ e
  have nT:∀a∈tf,a≠pt:=fun a ha=>by
   obtain⟨i,hi⟩:=List.mem_iff_getElem?.1 ha;obtain⟨s,_,hs⟩:=hf.get hi;obtain⟨q0,q1,_,_,e,_⟩:=tl0;exact fun z=>by have hs:GG a=_:=hs;rw[z,e] at hs;cases hs
  clear U1 U2 U3 U4 U hpd hq0 hq1 hpt M0 M2 M3 rC rD bC bD T15 K15 KG npt n0C n2C n3C n0D n2D n3D f3 hA3 fn;refine b0d (fun P h=>⟨_,rfl,h⟩) (SqL.of fw) (fun i σ H'=>∃u v,σ=[some (.ref a),some (.int n),some (.ref p2),some (.int c1),some (.ref pn),some (.ref x0),some (.ref x1),some (.ref pf),some (.ref po),some (.ref pd),some (.ref pt),u,v]/\LK K a5b b1a a0g a0e a0h a0n pt GG n bs x0 x2 x3 fC dC lC fD dD lD (ss.foldl (a4u bs) s0) ((ss.take i).foldl (a4u bs) s0) ((ss.take i).foldl (a4u bs) s0) H'/\Tld H' pt ((ss.take i).foldl (a4u bs) s0) ((ss.take i).foldl (a4u bs) s0)) ⟨none,none,rfl,lk0,tl0⟩ ?_ ?_ ?_
  ·rintro i σ H' _ ⟨u,v,rfl,lk,_⟩;exact SqL.of (lk.kn _ _ nw1 fw (by intro a b c z;cases z) (by intro a z;cases z))
  ·rintro i y σ H' hy ⟨u,v,rfl,lk,tl⟩;obtain⟨w1,hw1,rfl⟩:=a6m hy;obtain⟨st,hst,hs1⟩:=hAG.get hw1;have okst:=hok st (List.mem_of_getElem? hst);have hi:i<as.length:=(List.getElem?_eq_some_iff.1 hw1).1;have nw:=nA _ (List.mem_of_getElem? hw1);obtain⟨s,es⟩:∃s,s=(ss.take i).foldl (a4u bs) s0:=⟨_,rfl⟩;have e1:(ss.take (i+1)).foldl (a4u bs) s0=a4u bs s st:=by rw[a1u hst,A4y,es];rfl
   have lss:(ss.take i).length<=60:=by rw[A0u];omega
   have jti:Jt n (0+(ss.take i).length) s.ws s.rs:=by rw[es];exact Jt.run hbs jt0 fun t ht=>hok t (A6b ht)
   have lts:s.ts.length<=60:=by
    have:=ts_len (bs:=bs) (ss.take i) s0;rw[<- es] at this;rw[show s0.ts=[] by rw[es0]] at this;exact A0y this (by show 0+_<=60;omega)
   rw[<- es] at lk tl;rw[e1];clear es e1 hw1 hst hy;fail"go";refine c2v (n:=2) (by decide) (fun P h=>h) (fun k σ H'=>∃v,σ=[some (.ref a),some (.int n),some (.ref p2),some (.int c1),some (.ref pn),some (.ref x0),some (.ref x1),some (.ref pf),some (.ref po),some (.ref pd),some (.ref pt),some (.ref w1),v]/\LK K a5b b1a a0g a0e a0h a0n pt GG n bs x0 x2 x3 fC dC lC fD dD lD (ss.foldl (a4u bs) s0) (if 0<k then a4u bs s st else s) (if 1<k then a4u bs s st else s) H'/\Tld H' pt (if 0<k then a4u bs s st else s) (if 1<k then a4u bs s st else s)) ⟨_,rfl,lk,tl⟩ ?_ ?_
   ·rintro k σ H2 hk ⟨v,rfl,lk,tl⟩;have fo2:SqL K H2 po [.ref x2,.ref x3]:=SqL.of (lk.kn _ _ no1 fo (by intro a b c z;cases z) (by intro a z;cases z));have fd2:SqL K H2 pd [.ref fC,.ref fD]:=SqL.of (lk.kn _ _ npd fd' (by intro a b c z;cases z) (by intro a z;cases z));have w2:c9w H2 w1 st:=lk.kn _ _ nw hs1 (by intro a b c z;cases z) (by intro a z;cases z);obtain⟨q0,q1,t0,t1,e1,e2,e3,h1,h2,nq0,nq1⟩:=tl;have sp:SqL K H2 pt [.ref q0,.ref q1]:=SqL.of e1;have hk2:k=0\/k=1:=by omega
    rcases hk2 with rfl|rfl
    ·have lk:LK K a5b b1a a0g a0e a0h a0n pt GG n bs x0 x2 x3 fC dC lC fD dD lD (ss.foldl (a4u bs) s0) s s H2:=lk;have h1:a4a (Tp H2) t0 s.ts:=h1;have h2:a4a (Tp H2) t1 s.ts:=h2;have lt0:=h1.len;fail"go";refine st_lput ?_;fail"go";refine⟨x2,w1,fC,rfl,dC,lC,n,_,.ex,s,bs,st,lk.m2,jti,h0,h6,w2,okst,lk.tb,lk.r2,lk.b2,fun pp ts vs H3 B3 T3 M3 D3 fp lp hv hts=>?_⟩;have k3:=lk.kn2 B3;have lk3:=lk.step2 B3 T3 M3 D3;refine st_cat (k3.ls e2) fp (by rw[a1r,a1r];omega) fun pq hpq=>?_;have S4:=a0c hpq (.lst (refs t0++refs ts));have npq:pq≠pt:=fun z=>by rw[z,k3.ls e1] at hpq;cases hpq
     have fq:(upd H3 pq (.lst (refs t0++refs ts))) pq=some (.lst (refs (t0++ts))):=by
      rw[a0b];exact congrArg (fun l=>some (HO.lst l)) List.map_append.symm
     generalize upd H3 pq (.lst (refs t0++refs ts))=H4 at S4 fq ⊢;have e14:=S4 _ _ (k3.ls e1);have e24:=S4 _ _ (k3.ls e2);have e34:=S4 _ _ (k3.ls e3);have kl:=(But.upd (f:=pt) (H:=H4) (o:=.lst ([V.ref q0,.ref q1].set 0 (.ref pq)))).kl e14;fail"go";refine⟨pt,_,0,rfl,rfl,e14,(by show 0<2;decide),_,rfl,(lk3.same S4).put e14 e24 But.upd,pq,q1,t0++ts,t1,a0b,by rw[a0q npq];exact fq,by rw[a0q nq1];exact e34,?_,h2.mono fun a d (e:Tp H2 a d)=>kl _ _ (S4 _ _ (k3.tp e)) (by intro a z;cases z),npq,nq1⟩;show a4a _ _ (a4u bs s st).ts;rw[hv];exact(h1.mono fun a d (e:Tp H2 a d)=>kl _ _ (S4 _ _ (k3.tp e)) (by intro a z;cases z)).app (hts.mono fun a d (e:Tp H3 a d)=>kl _ _ (S4 _ _ e) (by intro a z;cases z))
    ·have lk:LK K a5b b1a a0g a0e a0h a0n pt GG n bs x0 x2 x3 fC dC lC fD dD lD (ss.foldl (a4u bs) s0) (a4u bs s st) s H2:=lk;have h1:a4a (Tp H2) t0 (a4u bs s st).ts:=h1;have h2:a4a (Tp H2) t1 s.ts:=h2;have lt1:=h2.len;fail"go";refine st_lput ?_;fail"go";refine⟨x3,w1,fD,rfl,dD,lD,n,_,.sg,s,bs,st,lk.m3,jti,h0,h6,w2,okst,lk.tb,lk.r3,lk.b3,fun pp ts vs H3 B3 T3 M3 D3 fp lp hv hts=>?_⟩;have k3:=lk.kn3 B3;have lk3:=lk.step3 B3 T3 M3 D3;refine st_cat (k3.ls e3) fp (by rw[a1r,a1r];omega) fun pq hpq=>?_;have S4:=a0c hpq (.lst (refs t1++refs ts));have npq:pq≠pt:=fun z=>by rw[z,k3.ls e1] at hpq;cases hpq
     have fq:(upd H3 pq (.lst (refs t1++refs ts))) pq=some (.lst (refs (t1++ts))):=by
      rw[a0b];exact congrArg (fun l=>some (HO.lst l)) List.map_append.symm
     generalize upd H3 pq (.lst (refs t1++refs ts))=H4 at S4 fq ⊢;have e14:=S4 _ _ (k3.ls e1);have e24:=S4 _ _ (k3.ls e2);have e34:=S4 _ _ (k3.ls e3);have kl:=(But.upd (f:=pt) (H:=H4) (o:=.lst ([V.ref q0,.ref q1].set 1 (.ref pq)))).kl e14;fail"go";refine⟨pt,_,1,rfl,rfl,e14,(by show 1<2;decide),_,rfl,(lk3.same S4).put e14 e24 But.upd,q0,pq,t0,t1++ts,a0b,by rw[a0q nq0];exact e24,by rw[a0q npq];exact fq,h1.mono fun a d (e:Tp H2 a d)=>kl _ _ (S4 _ _ (k3.tp e)) (by intro a z;cases z),?_,nq0,npq⟩;show a4a _ _ (a4u bs s st).ts;rw[hv];exact(h2.mono fun a d (e:Tp H2 a d)=>kl _ _ (S4 _ _ (k3.tp e)) (by intro a z;cases z)).app (hts.mono fun a d (e:Tp H3 a d)=>kl _ _ (S4 _ _ e) (by intro a z;cases z))
   ·rintro σ H2 ⟨v,rfl,lk,tl⟩;have lk:LK K a5b b1a a0g a0e a0h a0n pt GG n bs x0 x2 x3 fC dC lC fD dD lD (ss.foldl (a4u bs) s0) (a4u bs s st) (a4u bs s st) H2:=lk;have tl:Tld H2 pt (a4u bs s st) (a4u bs s st):=tl;have fo2:SqL K H2 po [.ref x2,.ref x3]:=SqL.of (lk.kn _ _ no1 fo (by intro a b c z;cases z) (by intro a z;cases z));fail"go";refine⟨x2,x3,n,_,a4u bs s st,rfl,lk.m2,lk.m3,jti.stp hbs okst,by omega,h6,fun H3 S3=>?_⟩;fail"go";obtain⟨q0,q1,t0,t1,e1,e2,e3,h1,h2,nq⟩:=tl;exact⟨_,_,rfl,lk.same S3,q0,q1,t0,t1,S3 _ _ e1,S3 _ _ e2,S3 _ _ e3,h1.mono fun a d (e:Tp H2 a d)=>S3 _ _ e,h2.mono fun a d (e:Tp H2 a d)=>S3 _ _ e,nq⟩
  ·rintro σ H2 ⟨u,v,rfl,lk,tl⟩;rw[a1r,hAG.len,A1h] at lk tl;have fo2:SqL K H2 po [.ref x2,.ref x3]:=SqL.of (lk.kn _ _ no1 fo (by intro a b c z;cases z) (by intro a z;cases z));have ff2:=lk.kn _ _ nf1 ff (by intro a b c z;cases z) (by intro a z;cases z);fail"go";rename_i pe hpe;have S3:=a0c hpe (.lst [.ref pf,.ref pf]);have fe:(upd H2 pe (.lst [.ref pf,.ref pf])) pe=some (.lst [.ref pf,.ref pf]):=a0b;generalize upd H2 pe (.lst [.ref pf,.ref pf])=H3 at S3 fe ⊢;obtain⟨q0,q1,t0,t1,e1,e2,e3,h1,h2,_,_⟩:=tl
   have hf3:a4a (Tp H3) tf (ss.foldl (a4u bs) s0).ts:=hf.mono fun a d (e:Tp GG a d)=>S3 _ _ (lk.kn _ _ (fun z=>by
    obtain⟨_,_,_,_,g,_⟩:=tl0;have e:GG a=_:=e;rw[z,g] at e
    cases e) e (by intro a b c z;cases z) (by intro a z;cases z))
   refine st_eqTL (SqL.of (S3 _ _ e1)) (SqL.of fe) (SqL.of (S3 _ _ e2)) (SqL.of (S3 _ _ e3)) (SqL.of (S3 _ _ ff2)) (h1.mono fun a d (e:Tp H2 a d)=>S3 _ _ e) (h2.mono fun a d (e:Tp H2 a d)=>S3 _ _ e) hf3 ?_;have lk3:=lk.same S3;have fo3:=S3.seq fo2;obtain⟨a2,hE2,hW2⟩:=lk3.m2;obtain⟨a0,hE0,hW0⟩:=lk3.m0;obtain⟨dx2,ix2⟩:=id hE2;obtain⟨dx0,ix0⟩:=id hE0;fail"go";refine a4q (d:=()) ix2 rfl ?_;fail"go";refine⟨x2,a2,n,_,rfl,hE2,hW2,fun pA HA SA hpA hWA=>?_⟩;fail"go";refine a4q (d:=()) (SA _ _ ix0) rfl ?_;fail"go";refine⟨x0,a0,n,_,rfl,hE0.stay SA,hW0.stay SA,fun pB HB SB hpB hWB=>?_⟩;fail"go";refine⟨pA,pB,n,_,rfl,fun z=>?_,hWA.stay SB,hWB,jtf.wn,jtf.ne,h6,jtf.bn.mono (A0w (by decide) (by omega)),fun H9 S9=>?_⟩
   ·obtain⟨kv,e,_⟩:=hWA;rw[z,hpB] at e;cases e
   fail"go";exact q _
end
abbrev NS (K:A0a)(x:Str)(a:Addr):Prop:=A5s K mainGlobals x=some (some (.ref a))
abbrev NZ (K:A0a)(x:Str):Prop:=A5s K mainGlobals x=some none
abbrev FI (K:A0a)(C:Addr)(x:Str)(a:Addr):Prop:=A2h K (.ref C) x=some (some (.ref a))
abbrev FN (K:A0a)(C:Addr)(x:Str):Prop:=A2h K (.ref C) x=some none
abbrev FA (K:A0a)(f:Addr)(x q:Str)(s:Stmt):Prop:=∃d,Fun K x q s f d
theorem cal_mk {mg:Str->Option Value}{x:Str}(o:a2k P w K mg base CX k f fd ps sp)(b:b9e K fd ps [])(p:A1s K (.ref f)=true)(m:mg x=some (.ref f)):Cal P w K mg base CX k x ps sp:=⟨f,fd,o,b,p,m⟩
structure OwnC (K:A0a)(C:Addr):Prop where
 pg:A6j K C Str.empty=true
 hd:A7h K C=true
 po:B0d K C=true
 sa:A2h K (.ref C) "__setattr__" = some (some (.builtin "object.__setattr__"))
 mm:B1j K C=true
 kc:A1s K (.ref C)=true
theorem bnd1 (h:us.length=1):∃a,us=[a]:=List.length_eq_one_iff.1 h
theorem bnd2 (h:us.length=2):∃a b,us=[a,b]:=by cases us with|nil=>cases h|cons a l=>exact⟨a,(bnd1 (A9n h)).imp fun _ e=>congrArg _ e⟩
theorem bnd3 (h:us.length=3):∃a b c,us=[a,b,c]:=by cases us with|nil=>cases h|cons a l=>exact⟨a,(bnd2 (A9n h)).imp fun _ h=>h.imp fun _ e=>congrArg _ e⟩
theorem bnd4 (h:us.length=4):∃a b c d,us=[a,b,c,d]:=by cases us with|nil=>cases h|cons a l=>exact⟨a,(bnd3 (A9n h)).imp fun _ h=>h.imp fun _ h=>h.imp fun _ e=>congrArg _ e⟩
local macro_rules|`(tactic| fail"bn")=>`(tactic| exact fun _ _ _ _ _ _ us hl=>by first|(obtain⟨_,e⟩:=bnd1 hl;subst e;rfl)|(obtain⟨_,_,e⟩:=bnd2 hl;subst e;rfl)|(obtain⟨_,_,_,e⟩:=bnd3 hl;subst e;rfl)|(obtain⟨_,_,_,_,e⟩:=bnd4 hl;subst e;rfl))
theorem a3f {mg:Str->Option Value}{x y q:Str}{st:Stmt}(KX:K.In h)(G:h.Ns mainGlobals mg)(o:a2k P w K mg base CX k f fd ps sp)(F:Fun K y q st f fd)(m:NS K x f)(b:∀(kV doc pm:Value) (an:Option Addr) (cdv ct:Value) (us:List Value),us.length=ps.length->bindArgs (A1x y q (a2w st) (a2j st) (a0f st) .none kV doc pm an cdv ct) ⟨us,[]⟩=pure (ps.zip us):=by fail"bn"):Cal P w K mg base CX k x ps sp:=⟨f,fd,o,F.binds b,F.kp,A1t KX G m⟩
theorem all_mk {l:B1u}{w:World}{mg:Str->Option Value}{d0 d1 d2 d3 d4 d5 d6 d7 d8 d9 d10 d11 d13 d14 d15 d16 d17 d18 d21 d22 d23 d24 d25 d26 d27 d28 d29 d30 d31 d32 d33 d34 d35 d36 d37 d38 d39 d40 d41 d42 d43 d44 d45 d46 d47 d48 d49 d50 d51 d52 d53 d54 d55 d56 d57 d58 d59 d60 d61 d62 d63 d64 d65 d66 d68 d69 d70 d72 d73 d74 d75 d76 d77 d79 d80 d81 d82 d83 d84 d85 d86:FuncData}{fa f0 f1 f2 f3 f4 f5 f6 f7 f8 f9 f10 f11 f12 f13 f14 f15 f16 f17 f18 f19 f20 f21 f22 f23 f24 f25 f26 f27 f28 f29 f30 f31 f32 f33 f34 f35 f36 f37 f38 f39 f40 f41 f42 f43 f44 f45 f46 f47 f48 f49 f50 f51 f52 f53 f54 f55 f56 f57 f58 f59 f60 f61 f62 f63 f64 f65 f66 f67 f68 f69 f70 f71 f72 f73 f74 f75 f76 f77 f78 f79 f80 f81 f82 f83 f84 f85 f86 f87:Addr}{od12 an12 od19 an19 od20 an20 od67 an67 od71 an71 od78 an78 od87 an87:Option Addr}{sl12 sl19 sl20 sl67 sl71 sl78 sl87:Array (Option Value)}{oc12 kV12 dc12 pm12 ct12 oc19 kV19 dc19 pm19 ct19 oc20 kV20 dc20 pm20 ct20 oc67 kV67 dc67 pm67 ct67 cd67 oc71 kV71 dc71 pm71 ct71 cd71 oc78 kV78 dc78 pm78 ct78 oc87 kV87 dc87 pm87 ct87 cd87:Value}{dT67:Addr}{dv67:Value}{do67:Option Addr}{dn67:Nat}{dsl67:Array (Option Value)}{dT71:Addr}{dv71:Value}{do71:Option Addr}{dn71:Nat}{dsl71:Array (Option Value)}{a1g a0g a1e a0e a1h a0h a2d a0n:Addr}{b9b t_MOST_WIRES t_XS t_ZS t_MINUS:Tok}{a2t a1a a2u a2r a1y a2s a1v a1w a6t a5x b2q d3m a4c:Addr}(KX:K.In h)(G:h.Ns mainGlobals mg)(hfa:mg "law" = some (.ref fa))
  (v_Over:NS K "Over" a2t)
  (v_Quarter:NS K "Quarter" a1a)
  (v_Back:NS K "Back" a2u)
  (v_Both:NS K "Both" a2r)
  (v_Where:NS K "Where" a1y)
  (v_Swap:NS K "Swap" a2s)
  (v_Exact:NS K "Exact" a1v)
  (v_Signs:NS K "Signs" a1w)
  (v_Span:NS K "Span" a6t)
  (v_Draws:NS K "Draws" a5x)
  (v_Machine:NS K "Machine" b2q)
  (v_Deed:NS K "Deed" d3m)
  (mt_Machine___init__:FI K b2q "__init__" f1)
  (if_1:A0r K (.ref f1)=true)
  (mt_Deed___init__:FI K d3m "__init__" f30)
  (if_30:A0r K (.ref f30)=true)
  (mt_Draws_draw:FI K a5x "draw" f10)
  (if_10:A0r K (.ref f10)=true)
  (mt_Over_on_whole:FI K a2t "on_whole" f12)
  (if_12:A0r K (.ref f12)=true)
  (mt_Quarter_on_whole:FI K a1a "on_whole" f15)
  (if_15:A0r K (.ref f15)=true)
  (mt_Back_on_whole:FI K a2u "on_whole" f16)
  (if_16:A0r K (.ref f16)=true)
  (mt_Both_on_whole:FI K a2r "on_whole" f18)
  (if_18:A0r K (.ref f18)=true)
  (mt_Where_on_whole:FI K a1y "on_whole" f19)
  (if_19:A0r K (.ref f19)=true)
  (mt_Swap_on_whole:FI K a2s "on_whole" f20)
  (if_20:A0r K (.ref f20)=true)
  (mt_Over_on_row:FI K a2t "on_row" f22)
  (if_22:A0r K (.ref f22)=true)
  (mt_Quarter_on_row:FI K a1a "on_row" f23)
  (if_23:A0r K (.ref f23)=true)
  (mt_Back_on_row:FI K a2u "on_row" f24)
  (if_24:A0r K (.ref f24)=true)
  (mt_Both_on_row:FI K a2r "on_row" f25)
  (if_25:A0r K (.ref f25)=true)
  (mt_Where_on_row:FI K a1y "on_row" f26)
  (if_26:A0r K (.ref f26)=true)
  (mt_Swap_on_row:FI K a2s "on_row" f27)
  (if_27:A0r K (.ref f27)=true)
  (mt_Swap___init__:FI K a2s "__init__" f31)
  (if_31:A0r K (.ref f31)=true)
  (mt_Over___init__:FI K a2t "__init__" f32)
  (if_32:A0r K (.ref f32)=true)
  (mt_Quarter___init__:FI K a1a "__init__" f33)
  (if_33:A0r K (.ref f33)=true)
  (mt_Back___init__:FI K a2u "__init__" f34)
  (if_34:A0r K (.ref f34)=true)
  (mt_Both___init__:FI K a2r "__init__" f35)
  (if_35:A0r K (.ref f35)=true)
  (mt_Where___init__:FI K a1y "__init__" f36)
  (if_36:A0r K (.ref f36)=true)
  (mt_Over_wires:FI K a2t "wires" f29)
  (if_29:A0r K (.ref f29)=true)
  (mt_Quarter_wires:FI K a1a "wires" f29)
  (mt_Back_wires:FI K a2u "wires" f29)
  (mt_Both_wires:FI K a2r "wires" f29)
  (mt_Where_wires:FI K a1y "wires" f29)
  (mt_Swap_wires:FI K a2s "wires" f29)
  (mt_Exact_follow:FI K a1v "follow" f21)
  (if_21:A0r K (.ref f21)=true)
  (mt_Signs_follow:FI K a1w "follow" f28)
  (if_28:A0r K (.ref f28)=true)
  (mt_Span_left_of:FI K a6t "left_of" f47)
  (if_47:A0r K (.ref f47)=true)
  (mt_Span_take:FI K a6t "take" f50)
  (if_50:A0r K (.ref f50)=true)
  (mt_Span_parts_of:FI K a6t "parts_of" f48)
  (if_48:A0r K (.ref f48)=true)
  (mt_Span___init__:FI K a6t "__init__" f51)
  (if_51:A0r K (.ref f51)=true)
  (mt_Exact_sure_value:FI K a1v "sure_value" f46)
  (if_46:A0r K (.ref f46)=true)
  (mt_Signs_sure_value:FI K a1w "sure_value" f59)
  (if_59:A0r K (.ref f59)=true)
  (mt_Exact_settle:FI K a1v "settle" f60)
  (if_60:A0r K (.ref f60)=true)
  (mt_Signs_settle:FI K a1w "settle" f61)
  (if_61:A0r K (.ref f61)=true)
  (mt_Exact_wires:FI K a1v "wires" f6)
  (if_6:A0r K (.ref f6)=true)
  (mt_Signs_wires:FI K a1w "wires" f6)
  (mt_Exact_do:FI K a1v "do" f40)
  (if_40:A0r K (.ref f40)=true)
  (mt_Signs_do:FI K a1w "do" f40)
  (mt_Exact_look:FI K a1v "look" f67)
  (if_67:A0r K (.ref f67)=true)
  (mt_Signs_look:FI K a1w "look" f67)
  (mt_Draws___init__:FI K a5x "__init__" f77)
  (if_77:A0r K (.ref f77)=true)
  (mt_Exact_whole:FI K a1v "whole" f4)
  (if_4:A0r K (.ref f4)=true)
  (mt_Signs_rows:FI K a1w "rows" f81)
  (if_81:A0r K (.ref f81)=true)
  (mt_Exact___init__:FI K a1v "__init__" f2)
  (if_2:A0r K (.ref f2)=true)
  (mt_Signs___init__:FI K a1w "__init__" f3)
  (if_3:A0r K (.ref f3)=true)
  (a0:NS K "is_whole_number" f0)
  (F0:Fun K "is_whole_number" "is_whole_number" a7f f0 d0)
  (F1:Fun K "__init__" "Machine.__init__" a6n f1 d1)
  (F2:Fun K "__init__" "Exact.__init__" a8w f2 d2)
  (F3:Fun K "__init__" "Signs.__init__" a5u f3 d3)
  (F4:Fun K "whole" "Exact.whole" b3s f4 d4)
  (a5:NS K "_law_cell_at" f5)
  (F5:Fun K "_law_cell_at" "_law_cell_at" b2c f5 d5)
  (F6:Fun K "wires" "Machine.wires" b0y f6 d6)
  (a7:NS K "without_noughts" f7)
  (F7:Fun K "without_noughts" "without_noughts" a7j f7 d7)
  (a8:NS K "bit_at" f8)
  (F8:Fun K "bit_at" "bit_at" d6y f8 d8)
  (a9:NS K "exchanged" f9)
  (F9:Fun K "exchanged" "exchanged" b8a f9 d9)
  (F10:Fun K "draw" "Draws.draw" b4r f10 d10)
  (a11:NS K "moved" f11)
  (F11:Fun K "moved" "moved" s_moved f11 d11)
  (l12:K.lookup f12=some ⟨oc12,od12,.func (A1x "on_whole" "Over.on_whole" (a2w a3c) (a2j a3c) (a0f a3c) .none kV12 dc12 pm12 an12 (.ref a1g) ct12),sl12⟩)
  (q12:A2t K (.ref a1g) "Over.on_whole" = true)
  (c4y:A8b K a1g a0g=true)
  (k12:A1s K (.ref f12)=true)
  (a13:NS K "times_i" f13)
  (F13:Fun K "times_i" "times_i" c7w f13 d13)
  (a14:NS K "turned_where_down" f14)
  (F14:Fun K "turned_where_down" "turned_where_down" a5y f14 d14)
  (F15:Fun K "on_whole" "Quarter.on_whole" a6v f15 d15)
  (F16:Fun K "on_whole" "Back.on_whole" a9t f16 d16)
  (a17:NS K "add_at" f17)
  (F17:Fun K "add_at" "add_at" d5c f17 d17)
  (F18:Fun K "on_whole" "Both.on_whole" b0w f18 d18)
  (l19:K.lookup f19=some ⟨oc19,od19,.func (A1x "on_whole" "Where.on_whole" (a2w a2p) (a2j a2p) (a0f a2p) .none kV19 dc19 pm19 an19 (.ref a1e) ct19),sl19⟩)
  (q19:A2t K (.ref a1e) "Where.on_whole" = true)
  (c1s:A8b K a1e a0e=true)
  (k19:A1s K (.ref f19)=true)
  (l20:K.lookup f20=some ⟨oc20,od20,.func (A1x "on_whole" "Swap.on_whole" (a2w a3a) (a2j a3a) (a0f a3a) .none kV20 dc20 pm20 an20 (.ref a1h) ct20),sl20⟩)
  (q20:A2t K (.ref a1h) "Swap.on_whole" = true)
  (c4f:A8b K a1h a0h=true)
  (k20:A1s K (.ref f20)=true)
  (F21:Fun K "follow" "Exact.follow" b2a f21 d21)
  (F22:Fun K "on_row" "Over.on_row" b3j f22 d22)
  (F23:Fun K "on_row" "Quarter.on_row" a8s f23 d23)
  (F24:Fun K "on_row" "Back.on_row" b3b f24 d24)
  (F25:Fun K "on_row" "Both.on_row" b3f f25 d25)
  (F26:Fun K "on_row" "Where.on_row" b2g f26 d26)
  (F27:Fun K "on_row" "Swap.on_row" b3c f27 d27)
  (F28:Fun K "follow" "Signs.follow" a8b f28 d28)
  (F29:Fun K "wires" "Deed.wires" b5k f29 d29)
  (F30:Fun K "__init__" "Deed.__init__" b0b f30 d30)
  (F31:Fun K "__init__" "Swap.__init__" b0q f31 d31)
  (F32:Fun K "__init__" "Over.__init__" b0j f32 d32)
  (F33:Fun K "__init__" "Quarter.__init__" a6y f33 d33)
  (F34:Fun K "__init__" "Back.__init__" b0s f34 d34)
  (F35:Fun K "__init__" "Both.__init__" b0m f35 d35)
  (F36:Fun K "__init__" "Where.__init__" a8m f36 d36)
  (a37:NS K "check_words" f37)
  (F37:Fun K "check_words" "check_words" a9p f37 d37)
  (a38:NS K "deed_of_words" f38)
  (F38:Fun K "deed_of_words" "deed_of_words" b0a f38 d38)
  (a39:NS K "deed_of" f39)
  (F39:Fun K "deed_of" "deed_of" c9b f39 d39)
  (F40:Fun K "do" "Machine.do" b6g f40 d40)
  (a41:NS K "added" f41)
  (F41:Fun K "added" "added" s_added f41 d41)
  (a42:NS K "ones" f42)
  (F42:Fun K "ones" "ones" s_ones f42 d42)
  (a43:NS K "letters_y" f43)
  (F43:Fun K "letters_y" "letters_y" b8s f43 d43)
  (a44:NS K "acted_on" f44)
  (F44:Fun K "acted_on" "acted_on" c2h f44 d44)
  (a45:NS K "half_by" f45)
  (F45:Fun K "half_by" "half_by" c8n f45 d45)
  (F46:Fun K "sure_value" "Exact.sure_value" a6q f46 d46)
  (F47:Fun K "left_of" "Span.left_of" b2d f47 d47)
  (F48:Fun K "parts_of" "Span.parts_of" b0c f48 d48)
  (a49:NS K "lowest_bit" f49)
  (F49:Fun K "lowest_bit" "lowest_bit" b5r f49 d49)
  (F50:Fun K "take" "Span.take" b8n f50 d50)
  (F51:Fun K "__init__" "Span.__init__" a9x f51 d51)
  (a52:NS K "widest" f52)
  (F52:Fun K "widest" "widest" c6c f52 d52)
  (a53:NS K "places" f53)
  (F53:Fun K "places" "places" c5k f53 d53)
  (a54:NS K "goes_beside" f54)
  (F54:Fun K "goes_beside" "goes_beside" b3w f54 d54)
  (a55:NS K "times" f55)
  (F55:Fun K "times" "times" s_times f55 d55)
  (a56:NS K "product_of" f56)
  (F56:Fun K "product_of" "product_of" b5b f56 d56)
  (a57:NS K "signs_number" f57)
  (F57:Fun K "signs_number" "signs_number" b2k f57 d57)
  (a58:NS K "made_of" f58)
  (F58:Fun K "made_of" "made_of" b5n f58 d58)
  (F59:Fun K "sure_value" "Signs.sure_value" a6s f59 d59)
  (F60:Fun K "settle" "Exact.settle" b2b f60 d60)
  (F61:Fun K "settle" "Signs.settle" a4d f61 d61)
  (a62:NS K "fits" f62)
  (F62:Fun K "fits" "fits" s_fits f62 d62)
  (a63:NS K "checked_row" f63)
  (F63:Fun K "checked_row" "checked_row" a9h f63 d63)
  (a64:NS K "weight_of" f64)
  (F64:Fun K "weight_of" "weight_of" b8m f64 d64)
  (a65:NS K "check_look" f65)
  (F65:Fun K "check_look" "check_look" b4s f65 d65)
  (a66:NS K "value_drawn" f66)
  (F66:Fun K "value_drawn" "value_drawn" b3u f66 d66)
  (l67:K.lookup f67=some ⟨oc67,od67,.func (A1x "look" "Machine.look" (a2w a4g) (a2j a4g) (a0f a4g) (.ref dT67) kV67 dc67 pm67 an67 cd67 ct67),sl67⟩)
  (dt67:K.lookup dT67=some ⟨dv67,do67,.seq #[.none] dn67,dsl67⟩)
  (q67:A2t K cd67 "Machine.look" = true)
  (k67:A1s K (.ref f67)=true)
  (a68:NS K "is_look" f68)
  (F68:Fun K "is_look" "is_look" c8g f68 d68)
  (a69:NS K "look_row" f69)
  (F69:Fun K "look_row" "look_row" c2s f69 d69)
  (a70:NS K "check_step" f70)
  (F70:Fun K "check_step" "check_step" b5h f70 d70)
  (a71:NS K "run_work" f71)
  (l71:K.lookup f71=some ⟨oc71,od71,.func (A1x "run_work" "run_work" (a2w a9s) (a2j a9s) (a0f a9s) (.ref dT71) kV71 dc71 pm71 an71 cd71 ct71),sl71⟩)
  (dt71:K.lookup dT71=some ⟨dv71,do71,.seq #[.none] dn71,dsl71⟩)
  (q71:A2t K cd71 "run_work" = true)
  (k71:A1s K (.ref f71)=true)
  (a72:NS K "_law_mixed" f72)
  (F72:Fun K "_law_mixed" "_law_mixed" b6d f72 d72)
  (a73:NS K "_law_words" f73)
  (F73:Fun K "_law_words" "_law_words" b5t f73 d73)
  (a74:NS K "_law_bits" f74)
  (F74:Fun K "_law_bits" "_law_bits" b8g f74 d74)
  (a75:NS K "_law_signs" f75)
  (F75:Fun K "_law_signs" "_law_signs" b6b f75 d75)
  (a76:NS K "_law_one" f76)
  (F76:Fun K "_law_one" "_law_one" c1w f76 d76)
  (F77:Fun K "__init__" "Draws.__init__" a5t f77 d77)
  (a78:NS K "drawer_of" f78)
  (l78:K.lookup f78=some ⟨oc78,od78,.func (A1x "drawer_of" "drawer_of" (a2w a6d) (a2j a6d) (a0f a6d) .none kV78 dc78 pm78 an78 (.ref a2d) ct78),sl78⟩)
  (q78:A2t K (.ref a2d) "drawer_of" = true)
  (hc_drawer_of:A8b K a2d a0n=true)
  (k78:A1s K (.ref f78)=true)
  (a79:NS K "_law_multiplied" f79)
  (F79:Fun K "_law_multiplied" "_law_multiplied" a7t f79 d79)
  (a80:NS K "_law_alike" f80)
  (F80:Fun K "_law_alike" "_law_alike" b1s f80 d80)
  (F81:Fun K "rows" "Signs.rows" b6a f81 d81)
  (a82:NS K "_law_quarters" f82)
  (F82:Fun K "_law_quarters" "_law_quarters" a9y f82 d82)
  (a83:NS K "_law_ones" f83)
  (F83:Fun K "_law_ones" "_law_ones" b8t f83 d83)
  (a84:NS K "_law_acted" f84)
  (F84:Fun K "_law_acted" "_law_acted" b4p f84 d84)
  (a85:NS K "_law_left" f85)
  (F85:Fun K "_law_left" "_law_left" b3t f85 d85)
  (a86:NS K "_law_step" f86)
  (F86:Fun K "_law_step" "_law_step" b7u f86 d86)
  (a87:NS K "law" f87)
  (l87:K.lookup f87=some ⟨oc87,od87,.func (A1x "law" "law" (a2w c8f) (a2j c8f) (a0f c8f) .none kV87 dc87 pm87 an87 cd87 ct87),sl87⟩)
  (q87:A2t K cd87 "law" = true)
  (k87:A1s K (.ref f87)=true)
  (b9g:A5s K mainGlobals "MOST_WIRES_EXACT" = some (some (A6u 6 b9b)))
  (v_MOST_WIRES:A5s K mainGlobals "MOST_WIRES" = some (some (A6u 40 t_MOST_WIRES)))
  (v_XS:A5s K mainGlobals "XS" = some (some (A6u 1 t_XS)))
  (v_ZS:A5s K mainGlobals "ZS" = some (some (A6u 2 t_ZS)))
  (v_MINUS:A5s K mainGlobals "MINUS" = some (some (A6u 0 t_MINUS)))
  (d1u:A5s K mainGlobals "WIRES_BEHIND" = some (some (.ref a4c)))
  (c9t:PyProof.Rows.KTD.tabLook (PyProof.Rows.KTD.datLooks fun b=>K.lookup b) (fun b=>K.lookup b) a4c (([("over",1),("quarter",1),("back",1),("both",1),("where",2),("swap",2)]:List (Str×Int)).map fun p=>(p.1,PyProof.Rows.KTD.Dat.flat (.int p.2)))=true)
  (d2e:OwnC K a2t)
  (na_Over_word:FN K a2t "word")
  (d1m:FN K a2t "undoer")
  (na_Over_at:FN K a2t "at")
  (b2r:OwnC K a1a)
  (c7v:FN K a1a "word")
  (c1n:FN K a1a "undoer")
  (d6p:FN K a1a "at")
  (d3d:OwnC K a2u)
  (na_Back_word:FN K a2u "word")
  (d1y:FN K a2u "undoer")
  (na_Back_at:FN K a2u "at")
  (d3c:OwnC K a2r)
  (na_Both_word:FN K a2r "word")
  (d1d:FN K a2r "undoer")
  (na_Both_at:FN K a2r "at")
  (c1v:OwnC K a1y)
  (d5a:FN K a1y "word")
  (c9k:FN K a1y "undoer")
  (na_Where_at:FN K a1y "at")
  (d2r:OwnC K a2s)
  (na_Swap_word:FN K a2s "word")
  (d1x:FN K a2s "undoer")
  (na_Swap_at:FN K a2s "at")
  (c2p:OwnC K a1v)
  (c5h:FN K a1v "amounts")
  (na_Exact_n:FN K a1v "n")
  (d5f:FN K a1v "kept")
  (c2r:OwnC K a1w)
  (c4x:FN K a1w "amounts")
  (na_Signs_n:FN K a1w "n")
  (d3q:FN K a1w "kept")
  (d2b:OwnC K a6t)
  (na_Span_sums:FN K a6t "sums")
  (d6h:FN K a6t "taken")
  (c2d:OwnC K a5x)
  (d5p:FN K a5x "bits")
  (d6g:FN K a5x "told")
  (b8u:A5v K (.ref b2q) "__getattribute__" = some (some (.builtin "type.__getattribute__")))
  (b7x:B1q K b2q (.type "type")=true)
  (b8k:B1r K (.ref b2q) (.type "type") "__init__" = some (.val (.ref f1)))
  (c5f:A5v K (.ref d3m) "__getattribute__" = some (some (.builtin "type.__getattribute__")))
  (c4s:B1q K d3m (.type "type")=true)
  (c5g:B1r K (.ref d3m) (.type "type") "__init__" = some (.val (.ref f30)))
  (z_isinstance:NZ K "isinstance")
  (z_int:NZ K "int")
  (z_bool:NZ K "bool")
  (z_range:NZ K "range")
  (z_dict:NZ K "dict")
  (z_len:NZ K "len")
  (z_list:NZ K "list")
  (z_all:NZ K "all")
  (z_tuple:NZ K "tuple")
  (z_str:NZ K "str")
  (z_min:NZ K "min")
  (z_max:NZ K "max")
  (z_sorted:NZ K "sorted") :
  ∃fd:FuncData,(∀(s:Shared) (v:Value),BindsTo s fd ⟨[v],[]⟩ [("_law_script",v)])/\∀base:Heap,K.In base->base.Ns mainGlobals mg->BltM mg base->a2k l.prog w K mg base CX0 9 fa fd ["_law_script"] (sp_law K a0g a0e a0h a0n):=by
 have e:=hfa.symm.trans (A1t KX G a87);cases e;have b1:=F1.binds (ps:=["self","n","most"]) (by fail"bn");have b2:=F2.binds (ps:=["self","n"]) (by fail"bn");have b3:=F3.binds (ps:=["self","n"]) (by fail"bn");have b4:=F4.binds (ps:=["self"]) (by fail"bn");have b6:=F6.binds (ps:=["self"]) (by fail"bn");have b10:=F10.binds (ps:=["self"]) (by fail"bn");have F12:=d4w (st:=a3c) l12 q12 k12;have b12:=F12.binds (ps:=["self","whole"]) (by fail"bn");have b15:=F15.binds (ps:=["self","whole"]) (by fail"bn");have b16:=F16.binds (ps:=["self","whole"]) (by fail"bn");have b18:=F18.binds (ps:=["self","whole"]) (by fail"bn");have F19:=d4w (st:=a2p) l19 q19 k19;have b19:=F19.binds (ps:=["self","whole"]) (by fail"bn");have F20:=d4w (st:=a3a) l20 q20 k20;have b20:=F20.binds (ps:=["self","whole"]) (by fail"bn");have b21:=F21.binds (ps:=["self","deed"]) (by fail"bn");have b22:=F22.binds (ps:=["self","row"]) (by fail"bn");have b23:=F23.binds (ps:=["self","row"]) (by fail"bn");have b24:=F24.binds (ps:=["self","row"]) (by fail"bn");have b25:=F25.binds (ps:=["self","row"]) (by fail"bn");have b26:=F26.binds (ps:=["self","row"]) (by fail"bn");have b27:=F27.binds (ps:=["self","row"]) (by fail"bn");have b28:=F28.binds (ps:=["self","deed"]) (by fail"bn");have b29:=F29.binds (ps:=["self"]) (by fail"bn");have b30:=F30.binds (ps:=["self","word","undoer","at"]) (by fail"bn");have b31:=F31.binds (ps:=["self","j","k"]) (by fail"bn");have b32:=F32.binds (ps:=["self","k"]) (by fail"bn");have b33:=F33.binds (ps:=["self","k"]) (by fail"bn");have b34:=F34.binds (ps:=["self","k"]) (by fail"bn");have b35:=F35.binds (ps:=["self","k"]) (by fail"bn");have b36:=F36.binds (ps:=["self","j","k"]) (by fail"bn");have b40:=F40.binds (ps:=["self","words"]) (by fail"bn");have b46:=F46.binds (ps:=["self","row"]) (by fail"bn");have b47:=F47.binds (ps:=["self","number","which"]) (by fail"bn");have b48:=F48.binds (ps:=["self","number"]) (by fail"bn");have b50:=F50.binds (ps:=["self","number"]) (by fail"bn");have b51:=F51.binds (ps:=["self","numbers"]) (by fail"bn");have b59:=F59.binds (ps:=["self","row"]) (by fail"bn");have b60:=F60.binds (ps:=["self","row","value"]) (by fail"bn");have b61:=F61.binds (ps:=["self","row","value"]) (by fail"bn");have F67:=fund_mk (st:=a4g) l67 q67 k67 dt67;have b67:=F67.binds (ps:=["self","row","draw"]) (ds:=[]) fun _ _ _ _ _ _ _ us hl=>by obtain⟨_,_,_,e⟩:=bnd3 (us:=us) (by simpa using hl);subst e;exact⟨_,rfl,rfl⟩
 have bN67:=F67.binds (ps:=["self","row","draw"]) (ds:=[.none]) fun _ _ _ _ _ _ _ us hl=>by obtain⟨_,_,e⟩:=bnd2 (us:=us) (by simpa using hl);subst e;exact⟨_,rfl,rfl⟩
 have F71:=fund_mk (st:=a9s) l71 q71 k71 dt71;have b71:=F71.binds (ps:=["machine","work","draw"]) (ds:=[]) fun _ _ _ _ _ _ _ us hl=>by obtain⟨_,_,_,e⟩:=bnd3 (us:=us) (by simpa using hl);subst e;exact⟨_,rfl,rfl⟩
 have bN71:=F71.binds (ps:=["machine","work","draw"]) (ds:=[.none]) fun _ _ _ _ _ _ _ us hl=>by obtain⟨_,_,e⟩:=bnd2 (us:=us) (by simpa using hl);subst e;exact⟨_,rfl,rfl⟩
 have b77:=F77.binds (ps:=["self","numbers"]) (by fail"bn");have F78:=d4w (st:=a6d) l78 q78 k78;have b78:=F78.binds (ps:=["numbers"]) (by fail"bn");have b81:=F81.binds (ps:=["self"]) (by fail"bn");have F87:=fun_mk (st:=c8f) l87 q87 k87;have a4m:GC mg "MOST_WIRES_EXACT" (.int 6):=⟨_,A1t KX G b9g,⟨_,rfl⟩⟩;have b1g:GC mg "MOST_WIRES" (.int 40):=⟨_,A1t KX G v_MOST_WIRES,⟨_,rfl⟩⟩;have a7e:GC mg "XS" (.int 1):=⟨_,A1t KX G v_XS,⟨_,rfl⟩⟩;have a7d:GC mg "ZS" (.int 2):=⟨_,A1t KX G v_ZS,⟨_,rfl⟩⟩;have a1p:GC mg "MINUS" (.int 0):=⟨_,A1t KX G v_MINUS,⟨_,rfl⟩⟩;have a4e:GTab K mg "WIRES_BEHIND" a4c [("over",1),("quarter",1),("back",1),("both",1),("where",2),("swap",2)]:=⟨A1t KX G d1u,c9t⟩;have a1x:mg "isinstance" = none:=A2c KX G z_isinstance;have b_int:mg "int" = none:=A2c KX G z_int;have b_bool:mg "bool" = none:=A2c KX G z_bool;have a6w:mg "range" = none:=A2c KX G z_range;have d0h:mg "dict" = none:=A2c KX G z_dict;have b4n:mg "len" = none:=A2c KX G z_len;have b7a:mg "list" = none:=A2c KX G z_list;have d0x:mg "all" = none:=A2c KX G z_all;have b2m:mg "tuple" = none:=A2c KX G z_tuple;have b_str:mg "str" = none:=A2c KX G z_str;have b_min:mg "min" = none:=A2c KX G z_min;have b_max:mg "max" = none:=A2c KX G z_max;have c0b:mg "sorted" = none:=A2c KX G z_sorted;have T_D:Txt_D K (a5k a2t a1a a2u a2r a1y a2s):=⟨(fun d=>match d with|.over=>⟨d2e.pg,d2e.hd,d2e.po,d2e.sa⟩|.quarter=>⟨b2r.pg,b2r.hd,b2r.po,b2r.sa⟩|.back=>⟨d3d.pg,d3d.hd,d3d.po,d3d.sa⟩|.both=>⟨d3c.pg,d3c.hd,d3c.po,d3c.sa⟩|.wher=>⟨c1v.pg,c1v.hd,c1v.po,c1v.sa⟩|.swap=>⟨d2r.pg,d2r.hd,d2r.po,d2r.sa⟩),(fun d=>match d with|.over=>na_Over_word|.quarter=>c7v|.back=>na_Back_word|.both=>na_Both_word|.wher=>d5a|.swap=>na_Swap_word),(fun d=>match d with|.over=>d1m|.quarter=>c1n|.back=>d1y|.both=>d1d|.wher=>c9k|.swap=>d1x),(fun d=>match d with|.over=>na_Over_at|.quarter=>d6p|.back=>na_Back_at|.both=>na_Both_at|.wher=>na_Where_at|.swap=>na_Swap_at)⟩;have T_M:Txt_M K (a5j a1v a1w):=⟨(fun d=>match d with|.ex=>⟨c2p.pg,c2p.hd,c2p.po,c2p.sa⟩|.sg=>⟨c2r.pg,c2r.hd,c2r.po,c2r.sa⟩),(fun d=>match d with|.ex=>c5h|.sg=>c4x),(fun d=>match d with|.ex=>na_Exact_n|.sg=>na_Signs_n),(fun d=>match d with|.ex=>d5f|.sg=>d3q)⟩;have T_N:Txt_N K (c0k a6t):=⟨(fun d=>match d with|.span=>⟨d2b.pg,d2b.hd,d2b.po,d2b.sa⟩),(fun d=>match d with|.span=>na_Span_sums),(fun d=>match d with|.span=>d6h)⟩;have T_R:Txt_R K (c9q a5x):=⟨(fun d=>match d with|.draws=>⟨c2d.pg,c2d.hd,c2d.po,c2d.sa⟩),(fun d=>match d with|.draws=>d5p),(fun d=>match d with|.draws=>d6g)⟩;refine⟨A1x "law" "law" (a2w c8f) (a2j c8f) (a0f c8f) .none kV87 dc87 pm87 an87 cd87 ct87,fun s v=>.of_eq rfl,fun base KB _ bm=>?_⟩;have c2a:=c0m (P:=l.prog) (w:=w) (mg:=mg) (base:=base) a1x b_int b_bool F0;have a1t:=a3f KX G c2a F0 a0;have c0a:=b7z T_M a1t F1;have a2c:CCal l.prog w K mg base CX0 2 "Machine" "__init__" ["self","n","most"] (a6e K (a5j a1v a1w)):=⟨b2q,f1,_,A1t KX G v_Machine,⟨b8u,b7x,b8k,F1.kp⟩,c0a,b1⟩;have c3y:=c1e T_M a2c a4m F2;have c5e:=c1m T_M a2c b1g a6w F3;have d5m:=d1a (P:=l.prog) (w:=w) (mg:=mg) (base:=base) T_M d0h F4;have d1j:=c9d (P:=l.prog) (w:=w) (mg:=mg) (base:=base) b4n F5;have b5a:=c4j (P:=l.prog) (w:=w) (mg:=mg) (base:=base) T_M F6;have c1p:=c0u (P:=l.prog) (w:=w) (mg:=mg) (base:=base)  F7;have o_bit_at:=ok_bit_at (P:=l.prog) (w:=w) (mg:=mg) (base:=base)  F8;have a1f:=a3f KX G o_bit_at F8 a8;have o_exchanged:=ok_exchanged a1f F9;have o_Draws_draw:=d4a (P:=l.prog) (w:=w) (mg:=mg) (base:=base) b4n T_R F10;have a1d:=a3f KX G c1p F7 a7;have a3q:=a3f KX G o_exchanged F9 a9;have b9y:∀d:RK,b6y l.prog w K mg base CX0 1 ((c9q a5x) d) "draw" ["self"] (c8k K (c9q a5x) d):=fun d=>match d with|.draws=>⟨T_R.cl .draws,f10,_,⟨mt_Draws_draw,if_10,F10.kp⟩,(o_Draws_draw).mono (by decide),b10⟩
 have h_lam:LCal l.prog w K mg base 3 (LZ (c9q a5x)):=lam_ok a1f a3q b9y T_R;have o_moved:=ok_moved a1d h_lam F11;have b2f:=a3f KX G o_moved F11 a11;have a5w:=A3k (c:=a1g) (P:=a0g) KB c4y;have c8a:=c3z (a0e:=a0e) (a0h:=a0h) (a0n:=a0n) T_D b2f a5w bm F12;have o_times_i:=ok_times_i (P:=l.prog) (w:=w) (mg:=mg) (base:=base)  F13;have a5s:=a3f KX G o_times_i F13 a13;have b7w:=b6x a1f a1d a5s F14;have a2b:=a3f KX G b7w F14 a14;have b9j:=b8e (a0g:=a0g) (a0e:=a0e) (a0h:=a0h) (a0n:=a0n) T_D a2b F15;have c7a:=c3u (a0g:=a0g) (a0e:=a0e) (a0h:=a0h) (a0n:=a0n) T_D a2b F16;have o_add_at:=ok_add_at (P:=l.prog) (w:=w) (mg:=mg) (base:=base)  F17;have b1c:=a3f KX G o_add_at F17 a17;have d0f:=c3t (a0g:=a0g) (a0e:=a0e) (a0h:=a0h) (a0n:=a0n) a1d T_D a5s b1c F18;have a5c:=A3k (c:=a1e) (P:=a0e) KB c1s;have c4r:=c1d (a0g:=a0g) (a0h:=a0h) (a0n:=a0n) T_D b2f bm a5c F19;have a5v:=A3k (c:=a1h) (P:=a0h) KB c4f;have c6x:=c4m (a0g:=a0g) (a0e:=a0e) (a0n:=a0n) T_D b2f bm a5v F20;have b1y:∀d:DK,b6y l.prog w K mg base CX0 5 ((a5k a2t a1a a2u a2r a1y a2s) d) "on_whole" ["self","whole"] (a3k K (a5k a2t a1a a2u a2r a1y a2s) a0g a0e a0h a0n d):=fun d=>match d with|.over=>⟨T_D.cl .over,f12,_,⟨mt_Over_on_whole,if_12,k12⟩,(c8a).mono (by decide),b12⟩|.quarter=>⟨T_D.cl .quarter,f15,_,⟨mt_Quarter_on_whole,if_15,F15.kp⟩,(b9j).mono (by decide),b15⟩|.back=>⟨T_D.cl .back,f16,_,⟨mt_Back_on_whole,if_16,F16.kp⟩,(c7a).mono (by decide),b16⟩|.both=>⟨T_D.cl .both,f18,_,⟨mt_Both_on_whole,if_18,F18.kp⟩,(d0f).mono (by decide),b18⟩|.wher=>⟨T_D.cl .wher,f19,_,⟨mt_Where_on_whole,if_19,k19⟩,(c4r).mono (by decide),b19⟩|.swap=>⟨T_D.cl .swap,f20,_,⟨mt_Swap_on_whole,if_20,k20⟩,(c6x).mono (by decide),b20⟩
 have d0z:=c7d T_M b1y F21;have d3r:=d1k a1f T_D a7e a7d a1p F22;have c3s:=c1c a1f T_D a7e a7d a1p F23;have d6s:=d1v a1f T_D a7e a7d a1p F24;have d6d:=d1t a1f T_D a7e a7d a1p F25;have d1b:=c8r a1f T_D a7e a7d a1p F26;have d5g:=d1s T_D a7e a7d a1p a3q F27;have b6m:∀d:DK,b6y l.prog w K mg base CX0 3 ((a5k a2t a1a a2u a2r a1y a2s) d) "on_row" ["self","row"] (c8h K (a5k a2t a1a a2u a2r a1y a2s) d):=fun d=>match d with|.over=>⟨T_D.cl .over,f22,_,⟨mt_Over_on_row,if_22,F22.kp⟩,(d3r).mono (by decide),b22⟩|.quarter=>⟨T_D.cl .quarter,f23,_,⟨mt_Quarter_on_row,if_23,F23.kp⟩,(c3s).mono (by decide),b23⟩|.back=>⟨T_D.cl .back,f24,_,⟨mt_Back_on_row,if_24,F24.kp⟩,(d6s).mono (by decide),b24⟩|.both=>⟨T_D.cl .both,f25,_,⟨mt_Both_on_row,if_25,F25.kp⟩,(d6d).mono (by decide),b25⟩|.wher=>⟨T_D.cl .wher,f26,_,⟨mt_Where_on_row,if_26,F26.kp⟩,(d1b).mono (by decide),b26⟩|.swap=>⟨T_D.cl .swap,f27,_,⟨mt_Swap_on_row,if_27,F27.kp⟩,(d5g).mono (by decide),b27⟩
 have d1n:=c9h T_M b6m F28;have a6f:=d4q (P:=l.prog) (w:=w) (mg:=mg) (base:=base) T_D b7a F29;have d0b:=c4t (P:=l.prog) (w:=w) (mg:=mg) (base:=base) T_D F30;have a0w:CCal l.prog w K mg base CX0 1 "Deed" "__init__" ["self","word","undoer","at"] (a8z K (a5k a2t a1a a2u a2r a1y a2s)):=⟨d3m,f30,_,A1t KX G v_Deed,⟨c5f,c4s,c5g,F30.kp⟩,d0b,b30⟩;have c7f:=c4b a0w F31;have c7c:=c4k a0w F32;have c0r:=b7s a0w F33;have c9n:=c5d a0w F34;have d0c:=c4u a0w F35;have c4p:=c1b a0w F36;have d6e:=d1p a1x a1t b4n a4e d0x b2m b_str F37;have k_Swap:d1e l.prog w K mg base CX0 2 "Swap" ((a5k a2t a1a a2u a2r a1y a2s) .swap) ["self","j","k"] (a8t K (a5k a2t a1a a2u a2r a1y a2s)):=⟨f31,_,⟨d2r.mm,mt_Swap___init__,if_31,d2r.kc⟩,c7f,b31,A1t KX G v_Swap⟩;have k_Over:d1e l.prog w K mg base CX0 2 "Over" ((a5k a2t a1a a2u a2r a1y a2s) .over) ["self","k"] (a8y K (a5k a2t a1a a2u a2r a1y a2s)):=⟨f32,_,⟨d2e.mm,mt_Over___init__,if_32,d2e.kc⟩,c7c,b32,A1t KX G v_Over⟩;have c0y:d1e l.prog w K mg base CX0 2 "Quarter" ((a5k a2t a1a a2u a2r a1y a2s) .quarter) ["self","k"] (a6b K (a5k a2t a1a a2u a2r a1y a2s)):=⟨f33,_,⟨b2r.mm,mt_Quarter___init__,if_33,b2r.kc⟩,c0r,b33,A1t KX G v_Quarter⟩;have k_Back:d1e l.prog w K mg base CX0 2 "Back" ((a5k a2t a1a a2u a2r a1y a2s) .back) ["self","k"] (a8x K (a5k a2t a1a a2u a2r a1y a2s)):=⟨f34,_,⟨d3d.mm,mt_Back___init__,if_34,d3d.kc⟩,c9n,b34,A1t KX G v_Back⟩;have k_Both:d1e l.prog w K mg base CX0 2 "Both" ((a5k a2t a1a a2u a2r a1y a2s) .both) ["self","k"] (a8u K (a5k a2t a1a a2u a2r a1y a2s)):=⟨f35,_,⟨d3c.mm,mt_Both___init__,if_35,d3c.kc⟩,d0c,b35,A1t KX G v_Both⟩;have d6b:d1e l.prog w K mg base CX0 2 "Where" ((a5k a2t a1a a2u a2r a1y a2s) .wher) ["self","j","k"] (a7s K (a5k a2t a1a a2u a2r a1y a2s)):=⟨f36,_,⟨c1v.mm,mt_Where___init__,if_36,c1v.kc⟩,c4p,b36,A1t KX G v_Where⟩;have a9g:=a3f KX G d6e F37 a37;have c7h:=c5j T_D k_Swap k_Over c0y k_Back k_Both d6b a9g b_min F38;have c0s:∀d:DK,b6y l.prog w K mg base CX0 1 ((a5k a2t a1a a2u a2r a1y a2s) d) "wires" ["self"] (d2h K (a5k a2t a1a a2u a2r a1y a2s) d):=fun d=>match d with|.over=>⟨T_D.cl .over,f29,_,⟨mt_Over_wires,if_29,F29.kp⟩,(a6f).mono (by decide),b29⟩|.quarter=>⟨T_D.cl .quarter,f29,_,⟨mt_Quarter_wires,if_29,F29.kp⟩,(a6f).mono (by decide),b29⟩|.back=>⟨T_D.cl .back,f29,_,⟨mt_Back_wires,if_29,F29.kp⟩,(a6f).mono (by decide),b29⟩|.both=>⟨T_D.cl .both,f29,_,⟨mt_Both_wires,if_29,F29.kp⟩,(a6f).mono (by decide),b29⟩|.wher=>⟨T_D.cl .wher,f29,_,⟨mt_Where_wires,if_29,F29.kp⟩,(a6f).mono (by decide),b29⟩|.swap=>⟨T_D.cl .swap,f29,_,⟨mt_Swap_wires,if_29,F29.kp⟩,(a6f).mono (by decide),b29⟩
 have a6x:=a3f KX G c7h F38 a38;have o_deed_of:=ok_deed_of c0s a6x b_max F39;have b6u:∀d:MK,b6y l.prog w K mg base CX0 6 ((a5j a1v a1w) d) "follow" ["self","deed"] (c9v K (a5k a2t a1a a2u a2r a1y a2s) (a5j a1v a1w) a0g a0e a0h a0n d):=fun d=>match d with|.ex=>⟨T_M.cl .ex,f21,_,⟨mt_Exact_follow,if_21,F21.kp⟩,(d0z).mono (by decide),b21⟩|.sg=>⟨T_M.cl .sg,f28,_,⟨mt_Signs_follow,if_28,F28.kp⟩,(d1n).mono (by decide),b28⟩
 have b0r:=a3f KX G o_deed_of F39 a39;have c2u:=d4t T_M b6u b0r F40;have o_added:=ok_added d0h a1d b1c F41;have o_ones:=ok_ones (P:=l.prog) (w:=w) (mg:=mg) (base:=base)  F42;have a8d:=a3f KX G o_ones F42 a42;have o_letters_y:=ok_letters_y a7e a7d a8d F43;have a4y:=a3f KX G o_letters_y F43 a43;have o_acted_on:=ok_acted_on a5s a7e a7d a1p a8d a4y F44;have d4r:=a3f KX G o_added F41 a41;have b6q:=a3f KX G o_acted_on F44 a44;have o_half_by:=ok_half_by a7e a7d a1p d4r b6q F45;have a8k:=a3f KX G o_half_by F45 a45;have c0j:=b8f T_M a8k F46;have d1w:=c9a (P:=l.prog) (w:=w) (mg:=mg) (base:=base) T_N F47;have a6a:∀d:SK,b6y l.prog w K mg base CX0 1 ((c0k a6t) d) "left_of" ["self","number","which"] (c3g K (c0k a6t) d):=fun d=>match d with|.span=>⟨T_N.cl .span,f47,_,⟨mt_Span_left_of,if_47,F47.kp⟩,(d1w).mono (by decide),b47⟩
 have c8z:=c3v a6a F48;have o_lowest_bit:=d7f (P:=l.prog) (w:=w) (mg:=mg) (base:=base)  F49;have b1h:=a3f KX G o_lowest_bit F49 a49;have o_Span_take:=ok_Span_take T_N a6a b1h F50;have c6r:∀d:SK,b6y l.prog w K mg base CX0 2 ((c0k a6t) d) "take" ["self","number"] (sp_N_take K (c0k a6t) d):=fun d=>match d with|.span=>⟨T_N.cl .span,f50,_,⟨mt_Span_take,if_50,F50.kp⟩,(o_Span_take).mono (by decide),b50⟩
 have c7x:=c5a T_N c6r F51;have o_widest:=ok_widest (P:=l.prog) (w:=w) (mg:=mg) (base:=base) a7e a7d b_max F52;have o_places:=ok_places a6w a1f F53;have d5d:=d1r a7e a7d a8d F54;have a3n:=a3f KX G d5d F54 a54;have o_times:=ok_times a7e a7d a1p a8d a4y a3n F55;have b8w:=a3f KX G o_times F55 a55;have o_product_of:=d4j b8w F56;have d0p:=c7e (P:=l.prog) (w:=w) (mg:=mg) (base:=base) a7e a7d F57;have b1v:∀d:SK,b6y l.prog w K mg base CX0 2 ((c0k a6t) d) "parts_of" ["self","number"] (c0p K (c0k a6t) d):=fun d=>match d with|.span=>⟨T_N.cl .span,f48,_,⟨mt_Span_parts_of,if_48,F48.kp⟩,(c8z).mono (by decide),b48⟩
 have k_Span:d1e l.prog w K mg base CX0 3 "Span" ((c0k a6t) .span) ["self","numbers"] (a8n K (c0k a6t)):=⟨f51,_,⟨d2b.mm,mt_Span___init__,if_51,d2b.kc⟩,c7x,b51,A1t KX G v_Span⟩;have c6a:=a3f KX G o_widest F52 a52;have c6h:=a3f KX G o_places F53 a53;have b1k:=a3f KX G o_product_of F56 a56;have a5q:=a3f KX G d0p F57 a57;have o_made_of:=ok_made_of a1p T_N b1v k_Span c6a c6h b1k a5q F58;have c0e:=a3f KX G o_made_of F58 a58;have b9x:=b7t T_M c0e F59;have d0t:=c9e T_M a8k F60;have d0s:=c9g T_M a7e a7d a3n b8w F61;have o_fits:=ok_fits (P:=l.prog) (w:=w) (mg:=mg) (base:=base)  F62;have c_fits:=a3f KX G o_fits F62 a62;have d4n:=d0w a1x a1t b4n a7e a7d a1p d0x b2m c_fits F63;have o_weight_of:=ok_weight_of a7e a7d a8d F64;have a9d:=a3f KX G d4n F63 a63;have b3n:=a3f KX G o_weight_of F64 a64;have o_check_look:=d3s a1p a9d b3n F65;have d3w:=d0r h_lam F66;have a8c:∀d:MK,b6y l.prog w K mg base CX0 6 ((a5j a1v a1w) d) "sure_value" ["self","row"] (b5x K (a5j a1v a1w) d):=fun d=>match d with|.ex=>⟨T_M.cl .ex,f46,_,⟨mt_Exact_sure_value,if_46,F46.kp⟩,(c0j).mono (by decide),b46⟩|.sg=>⟨T_M.cl .sg,f59,_,⟨mt_Signs_sure_value,if_59,F59.kp⟩,(b9x).mono (by decide),b59⟩
 have b6j:∀d:MK,b6y l.prog w K mg base CX0 5 ((a5j a1v a1w) d) "settle" ["self","row","value"] (c7p K (a5j a1v a1w) d):=fun d=>match d with|.ex=>⟨T_M.cl .ex,f60,_,⟨mt_Exact_settle,if_60,F60.kp⟩,(d0t).mono (by decide),b60⟩|.sg=>⟨T_M.cl .sg,f61,_,⟨mt_Signs_settle,if_61,F61.kp⟩,(d0s).mono (by decide),b61⟩
 have a4x:=a3f KX G o_check_look F65 a65;have a9n:=a3f KX G d3w F66 a66;have b7g:=c7t T_M a8c b6j a4x a9n F67;have o_is_look:=ok_is_look (P:=l.prog) (w:=w) (mg:=mg) (base:=base) a1x b4n b2m F68;have o_look_row:=ok_look_row (P:=l.prog) (w:=w) (mg:=mg) (base:=base)  F69;have b0n:=a3f KX G o_is_look F68 a68;have a7n:=a3f KX G o_look_row F69 a69;have o_check_step:=d5n b0r a4x b0n a7n F70;have b9a:∀d:MK,b6y l.prog w K mg base CX0 1 ((a5j a1v a1w) d) "wires" ["self"] (d3g K (a5j a1v a1w) d):=fun d=>match d with|.ex=>⟨T_M.cl .ex,f6,_,⟨mt_Exact_wires,if_6,F6.kp⟩,(b5a).mono (by decide),b6⟩|.sg=>⟨T_M.cl .sg,f6,_,⟨mt_Signs_wires,if_6,F6.kp⟩,(b5a).mono (by decide),b6⟩
 have c8w:∀d:MK,b6y l.prog w K mg base CX0 7 ((a5j a1v a1w) d) "do" ["self","words"] (sp_M_do K (a5k a2t a1a a2u a2r a1y a2s) (a5j a1v a1w) a0g a0e a0h a0n d):=fun d=>match d with|.ex=>⟨T_M.cl .ex,f40,_,⟨mt_Exact_do,if_40,F40.kp⟩,(c2u).mono (by decide),b40⟩|.sg=>⟨T_M.cl .sg,f40,_,⟨mt_Signs_do,if_40,F40.kp⟩,(c2u).mono (by decide),b40⟩
 have b3x:∀d:MK,b6y l.prog w K mg base CX0 7 ((a5j a1v a1w) d) "look" ["self","row","draw"] (sp_M_look K (a5j a1v a1w) (c9q a5x) d):=fun d=>match d with|.ex=>⟨T_M.cl .ex,f67,_,⟨mt_Exact_look,if_67,k67⟩,(b7g).mono (by decide),b67⟩|.sg=>⟨T_M.cl .sg,f67,_,⟨mt_Signs_look,if_67,k67⟩,(b7g).mono (by decide),b67⟩
 have b1z:=a3f KX G o_check_step F70 a70;have o_run_work:=ok_run_work b7a b0n a7n b9a c8w b3x b1z F71;have o__law_mixed:=d6x (P:=l.prog) (w:=w) (mg:=mg) (base:=base)  F72;have a0z:=a3f KX G o__law_mixed F72 a72;have o__law_words:=d4v a0z F73;have o__law_bits:=ok__law_bits a0z F74;have b0g:=a3f KX G o__law_bits F74 a74;have o__law_signs:=d4g a0z b0g F75;have b1m:=a3f KX G o__law_words F73 a73;have b1n:=a3f KX G o__law_signs F75 a75;have o__law_one:=ok__law_one a0z b1m b1n F76;have c4a:=c1j (P:=l.prog) (w:=w) (mg:=mg) (base:=base) T_R F77;have d4y:d1e l.prog w K mg base CX0 1 "Draws" ((c9q a5x) .draws) ["self","numbers"] (a7r K (c9q a5x)):=⟨f77,_,⟨c2d.mm,mt_Draws___init__,if_77,c2d.kc⟩,c4a,b77,A1t KX G v_Draws⟩;have b1d:=A3k (c:=a2d) (P:=a0n) KB hc_drawer_of;have o_drawer_of:=ok_drawer_of (a0g:=a0g) (a0e:=a0e) (a0h:=a0h) T_R bm d4y b1d F78;have c1x:=c0f (P:=l.prog) (w:=w) (mg:=mg) (base:=base)  F79;have a3x:=a3f KX G c1x F79 a79;have o__law_alike:=d3y d0x b_min c0b a3x F80;have o_Signs_rows:=d4e (P:=l.prog) (w:=w) (mg:=mg) (base:=base) T_M b7a F81;have c7j:=c4g (P:=l.prog) (w:=w) (mg:=mg) (base:=base) a6w F82;have o__law_ones:=ok__law_ones (P:=l.prog) (w:=w) (mg:=mg) (base:=base)  F83;have a6u:=a3f KX G c7j F82 a82;have b0t:=a3f KX G o__law_ones F83 a83;have o__law_acted:=d5r a6u b0t F84;have a8j:∀d:Unit,b6y l.prog w K mg base CX0 1 ((a5j a1v a1w) .ex) "whole" ["self"] (d2n K (a5j a1v a1w) d):=fun _=>⟨T_M.cl .ex,f4,_,⟨mt_Exact_whole,if_4,F4.kp⟩,(d5m).mono (by decide),b4⟩;have c6g:∀d:Unit,b6y l.prog w K mg base CX0 1 ((a5j a1v a1w) .sg) "rows" ["self"] (sp_S_rows K (a5j a1v a1w) d):=fun _=>⟨T_M.cl .sg,f81,_,⟨mt_Signs_rows,if_81,F81.kp⟩,(o_Signs_rows).mono (by decide),b81⟩;have b1e:=a3f KX G o__law_acted F84 a84;have o__law_left:=ok__law_left a8j c6g b1e F85;have o__law_step:=ok__law_step c8w b3x F86;have c9p:d1e l.prog w K mg base CX0 3 "Exact" ((a5j a1v a1w) .ex) ["self","n"] (a7v K (a5j a1v a1w)):=⟨f2,_,⟨c2p.mm,mt_Exact___init__,if_2,c2p.kc⟩,c3y,b2,A1t KX G v_Exact⟩;have c7n:d1e l.prog w K mg base CX0 3 "Signs" ((a5j a1v a1w) .sg) ["self","n"] (a7k K (a5j a1v a1w)):=⟨f3,_,⟨c2r.mm,mt_Signs___init__,if_3,c2r.kc⟩,c5e,b3,A1t KX G v_Signs⟩;have a3p:=a3f KX G d1j F5 a5;have b2s:=cal_mk o_run_work b71 k71 (A1t KX G a71);have b6n:=a3f KX G o__law_one F76 a76;have a5z:=cal_mk o_drawer_of b78 k78 (A1t KX G a78);have b1f:=a3f KX G o__law_alike F80 a80;have a9u:=a3f KX G o__law_left F85 a85;have b3y:=a3f KX G o__law_step F86 a86;exact ok_law T_M a6w a0z a8j c9p c7n a3p b2s b6n a5z b1f a9u b3y F87
theorem walk {l:B1u}{q:Program}{loose:List Str}{XP:(Str->Option Value)->Heap->Prop}{YP:World->Heap->Prop}{d:DefRec}{K:Params->A0a}(hn:l.most=some 63)(hdf:d.params.defaults=[])
  (hY:∀(w:World) (h:Heap),YP w h->(K w.params).In h/\B2f [(a1g,a0g),(a1e,a0e),(a1h,a0h),(a2d,a0n)] h) (hnt:∀w:World,B2g (K w.params)=true) (hdi:[a0g,a0e,a0h,a0n].Nodup)
  (F:∀(w:World) (mg:Str->Option Value) (fa:Addr) (h:Heap),(K w.params).In h->h.Ns mainGlobals mg->mg d.name=some (.ref fa)->
   ∃fd:FuncData,(∀(s:Shared) (u:Value),BindsTo s fd ⟨[u],[]⟩ [("_law_script",u)])/\∀base:Heap,(K w.params).In base->base.Ns mainGlobals mg->BltM mg base->a2k l.prog w (K w.params) mg base CX0 9 fa fd ["_law_script"] (sp_law (K w.params) a0g a0e a0h a0n)) :
  PySem.W.WalkO q loose XP YP l.row.toRowW d [] (fun f vs=>B3b f vs):=
 L2.walk_ofT (n:=63) (k:=9) (x:="_law_script") (CX:=fun _=>CX0) (sp:=fun w=>sp_law (K w.params) a0g a0e a0h a0n) (tabs:=[(a1g,a0g),(a1e,a0e),(a1h,a0h),(a2d,a0n)]) hn (by decide) hdf ⟨rfl,by decide,by decide⟩ hY hnt F (fun _ _ a ns hl hS hT=>⟨a,ns,rfl,hS,hl,⟨a4j.start (hT (a1g,a0g) (by simp)),a4j.start (hT (a1e,a0e) (by simp)),a4j.start (hT (a1h,a0h) (by simp)),a4j.start (hT (a2d,a0n) (by simp)),hdi⟩,fun _=>rfl⟩) fun _ _ _ _ _ z=>z
end Tw
open PySem PySem.W PyProof.Rows
local macro_rules|`(tactic| fail"ci")=>`(tactic| (show _=_;k_is))
local macro_rules|`(tactic| fail"ck")=>`(tactic| (show _=_;first|k_is|k_exc|kernel_rfl))
local macro_rules|`(tactic| fail"cs")=>`(tactic| (constructor<;>first|k_is|k_exc|kernel_rfl))
local macro_rules|`(tactic| fail"fa")=>`(tactic| (refine' L2.fun_mk ?l9 ?q9 ?k9;(case l9=>k_is);(case q9=>first|k_is|k_exc|kernel_rfl);(case k9=>first|k_is|k_exc|kernel_rfl)))
set_option maxRecDepth 100000 in
set_option maxHeartbeats 0 in
theorem PySem.Challenge.cw_twinwires_k40_whole_both_machines_tell_a_holds : PySem.Challenge.rw_twinwires_k40_whole_both_machines_tell_a.Holds := by
 w_on;refine PySem.W.holds_law Tw.ws fun said=>?_
 refine Tw.holds_once Tw.run0 Tw.run1 (by kernel_rfl) (fun _=>by kernel_rfl) (by kernel_rfl) (by rfl) (by rfl) (by rfl) (by rfl) (by first|assumption|decide +kernel) (by decide +kernel) ⟨rfl,rfl,rfl,rfl,rfl,by decide +kernel⟩ ?hw ?hc
 (case hw=>w_witness2)
 k_fill
 refine Tw.walk (l:=PySem.Challenge.rw_twinwires_k40_whole_both_machines_tell_a) (a1g:=291) (a0g:=287) (a1e:=423) (a0e:=419) (a1h:=456) (a0h:=452) (a2d:=591) (a0n:=587) rfl rfl (fun w h Y=>⟨A6p Y,(List.forall_mem_cons.mpr ⟨⟨A3k (c:=291) (P:=287) (A6p Y) (by kernel_rfl),A7d Y 287 (by decide)⟩,(List.forall_mem_cons.mpr ⟨⟨A3k (c:=423) (P:=419) (A6p Y) (by kernel_rfl),A7d Y 419 (by decide)⟩,(List.forall_mem_cons.mpr ⟨⟨A3k (c:=456) (P:=452) (A6p Y) (by kernel_rfl),A7d Y 452 (by decide)⟩,(List.forall_mem_cons.mpr ⟨⟨A3k (c:=591) (P:=587) (A6p Y) (by kernel_rfl),A7d Y 587 (by decide)⟩,(fun _ h=>nomatch h)⟩)⟩)⟩)⟩)⟩) (fun w=>by kernel_rfl) (by decide) ?F
 case F=>
  intro w mg fa h KX G hmg;refine' Tw.all_mk (a1g:=291) (a0g:=287) (a1e:=423) (a0e:=419) (a1h:=456) (a0h:=452) (a2d:=591) (a0n:=587) KX G hmg ?_ ?_ ?_ ?_ ?_ ?_ ?_ ?_ ?_ ?_ ?_ ?_ ?_ ?_ ?_ ?_ ?_ ?_ ?_ ?_ ?_ ?_ ?_ ?_ ?_ ?_ ?_ ?_ ?_ ?_ ?_ ?_ ?_ ?_ ?_ ?_ ?_ ?_ ?_ ?_ ?_ ?_ ?_ ?_ ?_ ?_ ?_ ?_ ?_ ?_ ?_ ?_ ?_ ?_ ?_ ?_ ?_ ?_ ?_ ?_ ?_ ?_ ?_ ?_ ?_ ?_ ?_ ?_ ?_ ?_ ?_ ?_ ?_ ?_ ?_ ?_ ?_ ?_ ?_ ?_ ?_ ?_ ?_ ?_ ?_ ?_ ?_ ?_ ?_ ?_ ?_ ?_ ?_ ?_ ?_ ?_ ?_ ?_ ?_ ?_ ?_ ?_ ?_ ?_ ?_ ?_ ?_ ?_ ?_ ?_ ?_ ?_ ?_ ?_ ?_ ?_ ?_ ?_ ?_ ?_ ?_ ?_ ?_ ?_ ?_ ?_ ?_ ?_ ?_ ?_ ?_ ?_ ?_ ?_ ?_ ?_ ?_ ?_ ?_ ?_ ?_ ?_ ?_ ?_ ?_ ?_ ?_ ?_ ?_ ?_ ?_ ?_ ?_ ?_ ?_ ?_ ?_ ?_ ?_ ?_ ?_ ?_ ?_ ?_ ?_ ?_ ?_ ?_ ?_ ?_ ?_ ?_ ?_ ?_ ?_ ?_ ?_ ?_ ?_ ?_ ?_ ?_ ?_ ?_ ?_ ?_ ?_ ?_ ?_ ?_ ?_ ?_ ?_ ?_ ?_ ?_ ?_ ?_ ?_ ?_ ?_ ?_ ?_ ?_ ?_ ?_ ?_ ?_ ?_ ?_ ?_ ?_ ?_ ?_ ?_ ?_ ?_ ?_ ?_ ?_ ?_ ?_ ?_ ?_ ?_ ?_ ?_ ?_ ?_ ?_ ?_ ?_ ?_ ?_ ?_ ?_ ?_ ?_ ?_ ?_ ?_ ?_ ?_ ?_ ?_ ?_ ?_ ?_ ?_ ?_ ?_ ?_ ?_ ?_ ?_ ?_ ?_ ?_ ?_ ?_ ?_ ?_ ?_ ?_ ?_ ?_ ?_ ?_ ?_ ?_ ?_ ?_ ?_ ?_ ?_ ?_ ?_ ?_ ?_ ?_ ?_ ?_ ?_ ?_ ?_ ?_ ?_ ?_ ?_ ?_ ?_ ?_ ?_ ?_ ?_ ?_ ?_ ?_ ?_ ?_ ?_ ?_ ?_ ?_ ?_ ?_ ?_ ?_ ?_ ?_ ?_ ?_ ?_ ?_ ?_ ?_ ?_ ?_ ?_ ?_
  all_goals first|fail"ci" | fail"ck" | fail"fa" | (show Tw.OwnC _ _;fail"cs")|(show L2.ExcK _ _;fail"cs")|skip
