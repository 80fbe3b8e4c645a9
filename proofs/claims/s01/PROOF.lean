import PyProof.Rows.All
import VbdcaqSpec
import PyVbdcaq
import PyFlatLaws
import PyProof.SetScanFacts
import PyProof.SetKind
import PyProof.DictKinds
import PyProof.Tail
import PyProof.SetRoads
import PyProof.SetNew
import PyProof.WalkLemmas
import PyProof.DictWalks
import PyProof.ForAny
import PyProof.Rows.SetFrom
import KE.KDictList
import PyProof.Rows.SortShellAny
import PyProof.EnumMake
import PyProof.Rows.CallKwBuiltin
import Wide.All
import OpenK.AllK
import Wide.FinOn
import PyProof.EqAt
import PyProof.EqKinds
import PyProof.TupleCall
import KE.BitLaws
import Open.SpecLaws
import KE.OsHead
import KE.OsGo
import PyProof.ListRange
import KE.KDictLaws
import PyProof.Rows.SeqMore
import PySem.Challenge.RW_packdraft_s01_answers
set_option Elab.async false
set_option linter.all false
set_option maxRecDepth 100000
set_option maxHeartbeats 2000000
structure PySem.W.Fast:Prop where(tw4008082287012362595 tw15137839264106342920 tw7182180207538429491 tw13902018177433403551 tw6258995332658789796 tw14075978276939596852 tw318649463723162337 tw8317597420067175427 tw11216116262962960252 tw503389346992315670 tw8684531057634085652 tw16350519567442194185 tw6526781647447287199 tw5193012259863333566 tw13242533717298699936 tw4653292881314507288 tw15393092528727274314 tw12381178648833780313 tw6144875625928765988 tw12129832587095645722 tw1482923904008790157 tw11972476553263501922 tw15282412855898992794 tw11312933482563536319 tw2106058266010536768 tw18133531357878178765 tw13153256915300314839 tw3455064625804327311 tw3718300873171156222 tw15462523540361563392 tw308081566810403347 tw16861960280513216128 tw7685148501563012015 tw6562936094204387849 tw2159126205722920521 tw12728959851705437329 tw12372529631512744175 tw16924194605367690646 tw3065378044000679945 tw502318828112809680 tw1289870836602367729 tw9347938296694308832 tw10919637199687006831 tw6515306220882189796 tw17359330020625016321 tw17425796317794950327 tw18064320801509803976 tw6807385215434496879 tw17128341591431347788 tw16008416178746835020 tw14336727093275819735 tw4487710196845447447 tw11352987998827843280 tw9374696267263003211 tw15665873154050092430 tw8232141932170196774 tw12757913171529442415 tw15102417270927170745 tw13101480486457388804 tw3193880718396952285 tw4260401589482078937 tw15531601819973687659 tw4808408291217143814 tw9181170941618549275 tw7090768141956343191 tw14986797939017787299 tw5302979449304446569 tw7561465971672820796 tw15208911638435312598 tw17141101430540683304 tw7308425876539173461 tw10241886769094620600 tw12061354037464586967 tw12130109206795070006 tw14174104541363593072 tw2068462433604748230 tw3120499840989833781 tw15075541455123757417 tw12928078704335651188 tw14070092129714502030 tw9698473496379065990 tw12594309481232059700 tw10282477192668860252 tw15499084758856027997 tw9196740222071123950 tw442705590326480031 tw7025686598352904370 tw10160242652394770984 tw1520424804959374490 tw352034562260545082 tw16501251121802100372 tw1298988467411717559 tw9320640923842295388 tw13010564806916051205 tw3254457094816970631 tw7323358568982800828 tw2274048935831006774 tw8383329154070173085 tw11598931745878679743 tw4271722754786665243 tw16622807275985816761 tw12067763155397140299 tw10834846789417678499 tw5807596902485382091 tw3624058758875630807 tw13768730597683004872 tw13983612747795023057 tw7705418038412151866 tw13712144315572184169 tw17789491131971551775 tw13491384792048540749 tw7993086467273265335 tw13097416418650136534 tw5911708576127750897 tw8576728853373393543 tw704321975077991388 tw5407839720390778899 tw3163469568920098568 tw4546886311939377583 tw8000718593819264482 tw9133267161428088806 tw15468581936308996534 tw9737186931368601841 tw17291004553115359063 tw542097785214210725 tw6888976807768472545 tw18011501261304907155 tw17738635401275448993 tw3729888229497572541 tw16135902354866982139 tw15151774536149154525 tw15357601066995228058 tw17713511554328262459 tw5907006114740117901 tw15757610964348721839 tw8426615072071242402 tw15580722297737718175 tw6097416521423217218 tw1118537375381226158 tw18291151452217716230 tw17148179473335215166 tw16938831762864571013 tw269483124935800043 tw3860161125533291875 tw8937849480588591025 tw15490532900809729219 tw5809493363648278276 tw170425410525564286 tw3143678513361454482 tw137545591352970149 tw68907556208759922 tw4639736131150702335 tw17857023599373971074 tw1753349894997449306 tw14916264453404949392 tw9092436432712229314 tw6773761876492752459 tw3577806985781066274 tw3735112353508965568 tw11779749799593621762 tw17154317144440965943 tw12772447511198216223 tw13679822152248976824 tw11011164041092711516 tw4060888771767600695 tw7220299036872785241 tw17962553853990225905 tw3817859583385476245 tw3458183783054621485 tw6294167690717584260 tw8330832916763503915 tw11871318614991682103 tw11261186240569497058 tw13128763755667457852 tw10536973066215993429 tw9841379602235683382 tw13684931811938231058 tw17763442417816202653 tw6822988471772104921 tw2228780437786398412 tw11858821730689932616 tw6049864450931766534 tw15652022924997583729 tw4986831853001573316 tw274580909805353377 tw13464962138597415085 tw1776913010259580041 tw8718143395444511945 tw4831409775092001966 tw6987580778391636685 tw15334246469403661952 tw2155569432576568311 tw7958657424984800152 tw5263771197628848053 tw13104396759676128683 tw7798429965744495101 tw7577826946838845988 tw15236832772554872056 tw17312752520776588387 tw5075423594558878113 tw16613683362900899942 tw17250794414406241647 tw9609230674850325031 tw3782474802942935337 tw803548137421620668 tw16681066457070616224 tw94922128693536189 tw1886036568785085220 tw8746027553266666190 tw17543787820130408218 tw7614769335754569402 tw14709527295300559281 tw12479410639771403617 tw7995562386830803930 tw2142107868946521368 tw4213407044696465194 tw14236232887754178825 tw12162377036361683729 tw84721062725715595 tw6434976463499767919 tw3861425609894587185 tw4593660102024765100 tw12133067801804156992 tw3914035828491469798 tw9162283908032593571 tw838479811544343035 tw16413349452038937078 tw1017569758949640140 tw6943608124146354160 tw5192501071110276504 tw2855951912010232148 tw2926911624303142893 tw17763932336987116229 tw5635354687287150308 tw16435384502492927624 tw15018853183158163324 tw1512427616703257101 tw7613744801642033833 tw6641874467604931762 tw7593546562905436809 tw18207273445093559989 tw1901655261441022366 tw15932737653723068654 tw15936808452801843242 tw14124349094236443346 tw16309376533855916720 tw6640905710810067711 tw15604103481026685432 tw3009140069420087210 tw13764170977344354681:True)
open List renaming length_map->ae,mem_cons_self->ah,length_append->ai,getElem?_eq_some_iff->aw,length_cons->az,mem_cons_of_mem->aA,getElem?_eq_getElem->aB,map_append->aF,range->aG,mem_append->aH,mem_cons->aM,mem_singleton->aN,replicate->aO,getD_eq_getElem?_getD->aW,contains_eq_mem->aY,size_toArray->aZ,length_range->ba,mem_map->bh,map_cons->bo,length_take->bt,mem_of_getElem?->bC,all_eq_true->bD,mem_range->bG,take_length->bJ,map_congr_left->bU,getElem?_append_right->bY,nodup_cons->cB,getElem?_append_left->cG,getElem?_map->cI,map_map->cO,count_pos_iff->cU,append_nil->cV,getElem_mem->df,any_eq_true->dg,range_succ->dj,mem_filter->dm,length_set->dD,flatMap_cons->dE,append_assoc->dF,count_eq_zero->dJ,all_cons->dM,length_replicate->dS,count_append->dZ,nodup_nil->eI,sum_cons->eK,eq_of_mem_replicate->eL,eq_nil_of_length_eq_zero->fD,mem_append_right->fJ,getElem?_eq_none->fL,nodup_iff_count->fY,isEmpty_iff->fZ,nodup_append->gw,flatMap_append->gC,filterMap_cons->gD,filter_cons->gW,pairwise_map->ip,find?_cons->iq,replicate_succ->iE,length_pos_iff->iF,any_cons->iR,pairwise_append->ji,length_dropLast->jj,all_nil->jk,not_mem_nil->jE,mem_flatMap->jF,lookup_cons->jG,length_eq_zero_iff->jH,length_drop->jI,getElem_map->jJ,length_nil->kn,length_filter_le->kq,getElem?_of_mem->lx,ext_getElem->lI,count_singleton_self->lQ,getElem_of_mem->lZ,getElem?_range->l4,count_cons->mG,getElem_range->mJ,lookup->nJ,length->nL,getElem?_replicate->nM,findIdx?_eq_some_iff_getElem->nO,take_of_length_le->og,map_nil->oh,getElem?_set_self->oj,foldl_append->om,flatten_cons->oo,mem_of_mem_take->p6,getElem?_set_ne->p7,perm_iff_count->rH,all_map->rK,mem_filterMap->tm,pairwise_iff_getElem->tW,any_eq_false->uG,nodup_range->vP,range_succ_eq_map->we,Nodup->wg,sum_append->yk,foldl_cons->yl,take_append_drop->yL,mem_of_mem_drop->zH,count_nil->zI,take_succ_cons->AE,getD_cons_succ->AF,pairwise_cons->B8,foldl->B9,find?_eq_none->Ca,filter_append->Cb,filter_congr->El,count_filter->Em,any_map->En,all_eq_false->Eo,getElem_inj->FA,cons_append->FC,range'->HJ,of_mem_zip->HQ,countP_eq_length_filter->HR,drop_left->JV,count->JW,getElem?_eq_none_iff->LL,findIdx?_eq_none_iff->LM,exists_mem_of_ne_nil->LN,drop_eq_getElem_cons->LO,pairwise_singleton->OH,getElem?_cons_zero->OI,sum_nil->OT,pairwise_lt_range->OU,getElem?_dropLast->OV,length_singleton->QZ,mem_append_left->SY,map_id->S0,dropLast_subset->S7,dropLast_concat->S8,filter_eq_self->Vj,mem_replicate->VA,length_range'->VB,take_sublist->YJ,drop_sublist->YK,map_flatMap->Y7,flatMap_nil->Y8
open PySem renaming wpAny_bind->ag,Value->aj,Shared->au,wpAny_pure->aD,boot_len->aV,Program->bw,World->bQ,mem_of_lookup->cu,Around->cR,Expr->de,SetTable->dA,wpAny_holding->fq,wpAny_setField_rec->ic,wpAny_askSetting->ie,wpAny_Call_Name_kw->ig,wpAny_call_entry->ja,wpAny_ite_split->jA,NameKind->jB,wpAny_mono->jV,wpAny_passesOwn->lh,codeAny_builtin->lj,wpAny_truthy_bool->lD,wpAny_storeSet_of->lE,wpAny_pyIter_list->lG,fits_of_scanBound->lH,codeAny_mono->mE,Builtin->n0,wpAny_callSpecial?_slot->o4,wpAny_newObj_type->pR,wpAny_isInstance->rF,Pos->sY,wpAny_pyIter_enum->wb,wpAny_field->wc,wpAny_Call_method->wd,IsEnum->yg,wpAny_Name->Aw,wpAny_loadPart'->AA,wpAny_execs_nil->AB,pushCells_keeps->AD,codeAny_call_builtin->Df,Keyword->Ej,wpAny_standAt->Fx,wpAny_attempt->Fy,call_meets->HE,Params->HF,slot_list_getitem->Ij,ElemsOf->Io,IsRangeIter->L7,codeAny_of_tree->OE,Within->OF,Env->OG,BindsTo->OS,wpAny_rule->QQ,wpAny_letOwnedTupleGo_enum->QR,wpAny_call->QS,isSubtype_type->QT,entryFor_alias->QU,evalArgs_none->SO,wpAny_getItem_list_slice->Vc,plainId_quiet->Vd,Tok->Vv,IsEnumOut->Vw,DictEntry->Vx,wpAny_pyNext_range_end->Yz,wpAny_pyIter_rangeiter->YA,seqIndex_neg->YB,call_meetsIn->YC,weight_type_call_type->Y4,builtinLookup_eq_fast->Y5
open Nat renaming le_refl->ao,ne_of_lt->bE,zero_le->bK,le_trans->bN,lt_of_lt_of_le->bV,lt_irrefl->et,not_lt_zero->fc,mod_eq_of_lt->f7,sub_self->hG,le_succ->iV,mod_lt->iX,lt_succ_of_lt->kS,ne_of_gt->lO,mul_comm->lP,min_eq_left->mI,zero_add->oN,le_of_lt->rO,add_zero->rP,mod_eq_sub_mod->tU,le_of_succ_le->uK,lt_succ_self->v7,pow_succ->yi,add_comm->yj,add_assoc->B0,add_right_comm->Di,zero_mul->EY,succ_mul->EZ,lt_trans->E1,le_of_eq->E6,succ_le_succ->HI,mod_add_mod->Iu,lt_succ_iff->Iv,mul_le_mul->LK,succ_pos->QX,pow_zero->QY,add_mod->Vi,lt_of_le_of_lt->YH,add_sub_cancel->YI
open PySem.W renaming Frag->aq,keepIn->eV,findIn->eW,emptyDict->gn,instObj->iZ,fnOf->lp,codeIn->nH,plainGet->oK,callWith_K->rG,hasDictIn->sX,isFn->vn,lookIn->yf,plainGet_of->yW,callWith_K0->yX,plainOver->BR,nsIn->BS,methodObj->BU,takerIn->ES,makesIn->ET,length_le_weightAllW->EU,mg_of->Il,cellsFrom_some->LI,methodCall_KW->LZ,handedIn->Vf,WRecords->Vg,WalkOS->YD,KdlSrc->YE
open Option.some renaming inj->ax
open Bool renaming and_eq_true->aE,not_eq_true'->aT,false_ne_true->br,not_eq_true->dX,noConfusion->dY,and_true->eM,true_and->fO,not_eq_false->gy,not_not->j5,false_and->ly,eq_iff_iff->yn,false_eq_true->Cc,or_eq_true->HS,and_false->JX,and_eq_true_iff->S9
open Array renaming length_toList->aI,getElem?_eq_getElem->cW,getD_eq_getD_getElem?->c8,getElem_toList->eY,getElem?_toList->gM,getElem?_eq_none->iJ,size_map->y0,isEmpty_iff->Dj,eq_empty_of_size_eq_zero->E7,toList->OJ,toList_push->VC,replicate->Y9
open Vbdcaq renaming step->aU,queue->bc,inr->bf,Pack->bA,guarded->bI,split->bL,offSheet->bR,through->cg,pool->cA,begun->cD,sorts->cM,sortOf->dw,taken->dP,State->dQ,setupOf->eD,start->e9,dec->gp,did->gP,mixed->gU,printed->hC,Setup->iy,looks->iD,noSeat->iH,Kind->iI,lacking->iT,kindsIn->iU,nextChance->jb,picked->jg,shownMove->jz,over->kP,pairs->lu,tally->nN,mix->oZ,record->pD,lookedAt->p5,kindsOf->yK,below->BX,due->HM,Table->LV,seenCards->Vt,neighbour->Vu,placesOk->Yw,lastLook->Yx,Call->Yy
open PySem.F renaming plainAttrs_list->a9,type_list_append->cJ,slot_list_append->cK,type_list_extend->dG,slot_list_extend->dH,slot_enumerate_next->km,slot_dict_get->vY,args_enumerate_next_1->Ek,slot_dict_setdefault->EV,entry_enumerate_next->EW,plain_list_iadd->JS,plainAttrs_dict->JT,args_dict_get_3->JU,entry_dict_get->LJ
open Or renaming inl->be,inr->jh
open VbdcaqNeutral renaming step->bu,start->nZ
open Prod.mk renaming inj->bz
open Int renaming toNat_natCast->bB,toNat->cz,le_refl->uL,natCast_emod->v9,lt_iff_le_and_ne->Vk
open PySem.SetTable renaming below->bM,bits->cQ,runEnd->dO,insertAt->dU,eraseAt->eF,leap->iz,sizeAbove->jD,turns->ko,grown->mH,laid->yY,fresh->Fz,fill->HN,insertAt_perm->JR,layClean->QV
open Ne renaming symm->bT
open Classical renaming byContradiction->bZ
open PySem.PassesOwn renaming never->ck
open Sum renaming inl->da,inr->ER
open PyProof.Rows renaming firstMet->dI,boot_set->gu,callWith_type1->hW,boot_sorted->qB,firstMet_zero->BZ,boot_sum->HG,boot_all->HH,IntsAre->Iq,AllBare->Ir,step_dedup->QW,firstMet_succ->Vh,subscriptTail_builtinR->YG
open PySem.Value renaming ref->eQ,int->lB,type->pE,bool->pF,isInt->tV,none->vX,isInt_shape->Dg,str->L0
open PyFlat renaming put->fu,played->fE,put1->gB,told->hE,okCall->j9
open PySem.Builtin.Range renaming rangeSize->fB,small->vo
open False renaming elim->fU
open PyVbdcaq renaming shape->gc,answers_asked->uJ,answers->BY,whole->Fw
open List.Pairwise renaming imp_of_mem->gE,nil->ym,filterMap->Ep
open Option renaming map_eq_some_iff->jW,isSome_some->rJ,none->EX,isSome_none->SX,getD_none->Vz
open PySem.Builtin.List renaming listTooLong->kQ,listLengthHint->BW
open PySem.Around renaming under_plainId->kR,under->L8,under_plain->SS
open PySem.SetTable.layClean renaming free->lq
open PySem.Calls renaming spliced_cons->mF,callWith_builtin->vZ,evalArgs_plain->yZ,spliced_nil->Dh,Name_function_global->Ip
open PySem.Builtin.Frozenset renaming unchanged->nI,isAnySet->nS,baseOf->pG,differenceUpdate->uF,difference->yh,sizeOf->Ax
open PySem.NameKind renaming free->oM,cell->HP
open PySem.SetTable.below renaming go->pS
open True renaming intro->sW
open PySem.Builtin.SmallTypes renaming ownedTupleHandOut->tf,ownedTupleIsFree->tT
open ForInStep renaming yield->uM
open List.Perm renaming refl->v8
open Except.ok renaming inj->yM
open PySem.SetTable.sizeAbove renaming go->BV
open PySem.pickOrder renaming go->Ik
open PySem.SetTable.probe renaming go->Im
open Vbdcaq.Call renaming holders->JO,colours->JP,replay->LG,begin_->LH,truth->LW,sizes->LX,sheet->LY,seen->Ox,pool->Oy,pick->Oz,late->OA,gone->OB,back->OC,away->OD,see->OQ
open PySem.Shared renaming TypeIs->JQ
open PySem.SeqAt.EqAt renaming str_int->L3,int_str->L5
open PySem.Code renaming isFrame->OR,quiet_builtin->Vy
open PySem.Value.type renaming inj->SQ
open PySem.Data renaming seq->SR
open Prod renaming snd->SV,ext->SW
open PySem.Walks renaming list->Ve
open PySem.Builtin renaming bitAnd->YF
open Nat.succ renaming inj->Y6
namespace Ma
open Vbdcaq
structure gT(s:iy):Prop where
 seats:2<=s.seats/\s.seats<=8
 acr:s.recipe.length=4
 ahD:∀k,k<4->s.recipe.getD k 0<=15
 Ku:1<=s.recipe.sum/\s.recipe.sum<=20
 takes:1<=s.takes/\s.takes<=3
 rounds:1<=s.rounds/\s.rounds<=4
 seed:s.seed<=1000000000000000000
 kinds:1<=s.kinds.length/\s.kinds.length<=64
 kb:∀k∈s.kinds,k.cls<=3/\k.colours<=15/\1<=k.copies/\k.copies<=20
 ah3:lacking s=false
theorem y1(l:List Nat)(i j:Nat):(swapAt l i j).length=l.length:=by
 simp[swapAt]
theorem NI{l:List Nat}{j:Nat}:l.getD j 0∈l\/l.getD j 0=0:=by
 by_cases h:j<l.length
 ·left
  rw[aW,aB h];exact df h
 ·right
  rw[aW,fL (by omega)];rfl
theorem Fi{l:List Nat}{K j:Nat}(h:∀x∈l,x<K)(hK:0<K):l.getD j 0<K:=by
 rcases NI (l:=l) (j:=j)with q|q
 ·exact h _ q
 ·omega
theorem Wa{l:List Nat}{K i v:Nat}(h:∀x∈l,x<K)(hv:v<K):∀x∈l.set i v,x<K:=by
 intro x hx;rcases List.mem_or_eq_of_mem_set hx with q|q
 ·exact h _ q
 ·omega
theorem Tr{l:List Nat}{K:Nat}(i j:Nat)(h:∀x∈l,x<K)(hK:0<K):∀x∈swapAt l i j,x<K:=
 Wa (Wa h (Fi h hK)) (Fi h hK)
theorem Bi(i:Nat)(s:Nat×List Nat):mix (i+1) s=mix i (nextChance s.1,swapAt s.2 (i+1) (below (nextChance s.1) (i+2))):=by
 conv=>lhs;unfold mix
theorem Bh(s:Nat×List Nat):mix 0 s=s:=by
 conv=>lhs;unfold mix
theorem GQ:∀(i:Nat) (s:Nat×List Nat),(mix i s).2.length=s.2.length
 |0,s=>by rw[Bh]
 |i+1,s=>by
  rw[Bi,GQ i,y1]
theorem W9{K:Nat}(hK:0<K):∀(i:Nat) (s:Nat×List Nat),(∀x∈s.2,x<K)->∀x∈(mix i s).2,x<K
 |0,s,h=>by rw[Bh];exact h
 |i+1,s,h=>by
  rw[Bi];exact W9 hK i _ (Tr _ _ h hK)
theorem PH(s:iy)(k:Nat):∀x∈printed s k,x<s.kinds.length:=by
 intro x hx;unfold printed at hx;rw[jF]at hx;obtain⟨i,hi,hx⟩:=hx;rw[bG]at hi;rw[aB hi]at hx;dsimp only at hx;split at hx
 ·rw[VA]at hx;omega
 ·cases hx
theorem Ct:aG 4=[0,1,2,3]:=by decide
def vF(s:iy)(x k:Nat):Nat×List Nat:=mix ((printed s k).length-1) (x,printed s k)
theorem GP(s:iy):mixed s=
  [(vF s s.seed 0).2,(vF s (vF s s.seed 0).1 1).2,(vF s (vF s (vF s s.seed 0).1 1).1 2).2,
   (vF s (vF s (vF s (vF s s.seed 0).1 1).1 2).1 3).2]:=by
 unfold mixed;rw[Ct];rfl
theorem qp(s:iy)(x k:Nat):(vF s x k).2.length=(printed s k).length:=GQ _ _
theorem Bj{s:iy}(hK:0<s.kinds.length)(x k:Nat):∀c∈(vF s x k).2,c<s.kinds.length:=W9 hK _ _ (PH s k)
theorem jR(s:iy):(mixed s).length=4:=by rw[GP];rfl
theorem qV(s:iy){k:Nat}(hk:k<4):((mixed s).getD k []).length=(printed s k).length:=by
 rw[GP];match k,hk with
 |0,_=>exact qp _ _ _
 |1,_=>exact qp _ _ _
 |2,_=>exact qp _ _ _
 |3,_=>exact qp _ _ _
theorem W8{s:iy}(hK:0<s.kinds.length):∀l∈mixed s,∀x∈l,x<s.kinds.length:=by
 rw[GP];intro l hl;rcases aM.mp hl with e|hl
 ·rw[e];exact Bj hK _ _
 rcases aM.mp hl with e|hl
 ·rw[e];exact Bj hK _ _
 rcases aM.mp hl with e|hl
 ·rw[e];exact Bj hK _ _
 rcases aM.mp hl with e|hl
 ·rw[e];exact Bj hK _ _
 ·cases hl
theorem KU{s:iy}(h:lacking s=false){k:Nat}(hk:k<4)(hr:s.recipe.getD k 0≠0):printed s k≠ []:=by
 unfold lacking at h;rw[uG]at h;have q:=h k (bG.mpr hk);intro e;apply q;rw[e];simp only[bne_iff_ne,ne_eq,hr,not_false_eq_true,List.isEmpty_nil,eM]
theorem Ig{s:iy}(hK:0<s.kinds.length)(k:Nat):∀x∈(mixed s).getD k [],x<s.kinds.length:=by
 intro x hx;by_cases h:k<(mixed s).length
 ·rw[aW,aB h]at hx;exact W8 hK _ (df h) x hx
 ·rw[aW,fL (by omega)]at hx;cases hx
theorem ahs:∀(l:List Nat),l.length=4->l.sum=l.getD 0 0+l.getD 1 0+l.getD 2 0+l.getD 3 0
 |[a,b,c,d],_=>by simp[eK];omega
def eG(t:Table):List Nat:=(aG 4).flatMap fun k=>offSheet (t.sheets.getD k []) (t.off.getD k 0) (t.setup.recipe.getD k 0)
def size(t:Table):Nat:=t.setup.recipe.sum
theorem CF{t:Table}(h:t.setup.recipe.length=4):(eG t).length=size t:=by
 unfold eG size;rw[Ct,ahs _ h];simp[offSheet];omega
theorem M5{sheet:List Nat}{K:Nat}(hK:0<K)(h:∀x∈sheet,x<K)(off n:Nat):∀x∈offSheet sheet off n,x<K:=by
 intro x hx;unfold offSheet at hx;rw[bh]at hx;obtain⟨j,_,rfl⟩:=hx;exact Fi h hK
theorem Ky{t:Table}(hK:0<t.setup.kinds.length)(hs:t.sheets=mixed t.setup):∀x∈eG t,x<t.setup.kinds.length:=by
 intro x hx;unfold eG at hx;rw[jF]at hx;obtain⟨k,_,hx⟩:=hx;rw[hs]at hx;exact M5 hK (Ig hK k) _ _ x hx
def cN(t:Table):List Nat:=(aG (eG t).length).map fun j=>t.cards.length+j+1
theorem CJ(t:Table)(i:Nat):openAt t i={t with off:=(aG 4).map fun k=>t.off.getD k 0+t.setup.recipe.getD k 0,cards:=t.cards++eG t,queues:=t.queues.set i [⟨i,0,cN t⟩],looks:=t.looks.set i (t.looks.getD i []++[(t.round*t.setup.seats+i,cN t)])}:=rfl
theorem cy{α:Type}{l:List α}{i:Nat}{v d:α}(h:i<l.length):(l.set i v).getD i d=v:=by
 rw[aW,oj h];rfl
theorem cw{α:Type}{l:List α}{i j:Nat}{v d:α}(h:i≠j):(l.set i v).getD j d=l.getD j d:=by
 rw[aW,p7 h,<-aW]
theorem Bo{α:Type}{l:List α}{i:Nat}{d:α}(h:l.length<=i):l.getD i d=d:=by
 rw[aW,fL h];rfl
theorem getD_in{α:Type}{l:List α}{i:Nat}{d:α}(h:i<l.length):l.getD i d=l[i]:=by
 rw[aW,aB h];rfl
theorem sum_set{α:Type}(f:α->Nat)(v d:α):∀(l:List α) (i:Nat),i<l.length->((l.set i v).map f).sum+f (l.getD i d)=(l.map f).sum+f v
 |[],i,h=>by simp at h
 |a::l,0,_=>by simp[eK];omega
 |a::l,i+1,h=>by
  have q:=sum_set f v d l i (by simpa using h);simp only[List.set_cons_succ,bo,eK,AF];omega
theorem tO{α:Type}(f:α->Nat)(d:α):∀(l:List α) (i:Nat),i<l.length->f (l.getD i d)<=(l.map f).sum
 |[],i,h=>by simp at h
 |a::l,0,_=>by simp[eK]
 |a::l,i+1,h=>by
  have q:=tO f d l i (by simpa using h);simp only[bo,eK,AF];omega
theorem kC{α:Type}(f:α->Nat):∀(l:List α),(∀a∈l,f a=0)->(l.map f).sum=0
 |[],_=>rfl
 |a::l,h=>by
  simp only[bo,eK];rw[h a ah,kC f l fun b hb=>h b (aA _ hb)]
def pP(c:Nat)(q:List bA):Nat:=(q.map fun p=>p.cards.count c).sum
def BJ(c:Nat)(qs:List (List bA)):Nat:=(qs.map (pP c)).sum
def C5(c:Nat)(ps:List (List Nat)):Nat:=(ps.map fun l=>l.count c).sum
def pf(o:Nat)(q:List bA):Nat:=(q.map fun p=>if p.origin=o then 1 else 0).sum
def w6(o:Nat)(qs:List (List bA)):Nat:=(qs.map (pf o)).sum
theorem Oa(c:Nat):pP c []=0:=rfl
theorem C4(c:Nat)(p:bA)(q:List bA):pP c (p::q)=p.cards.count c+pP c q:=by simp[pP]
theorem UQ(c:Nat)(p:bA)(q:List bA):pP c (q++[p])=pP c q+p.cards.count c:=by simp[pP,yk]
theorem wY(o:Nat):pf o []=0:=rfl
theorem oE(o:Nat)(p:bA)(q:List bA):pf o (p::q)=(if p.origin=o then 1 else 0)+pf o q:=by simp[pf]
theorem TY(o:Nat)(p:bA)(q:List bA):pf o (q++[p])=pf o q+(if p.origin=o then 1 else 0):=by simp[pf,yk]
theorem Hq{qs:List (List bA)}{i:Nat}(c:Nat)(v:List bA)(h:i<qs.length):BJ c (qs.set i v)+pP c (qs.getD i [])=BJ c qs+pP c v:=sum_set (pP c) v [] qs i h
theorem wZ{qs:List (List bA)}{i:Nat}(c:Nat)(v:List bA)(h:i<qs.length):w6 c (qs.set i v)+pf c (qs.getD i [])=w6 c qs+pf c v:=sum_set (pf c) v [] qs i h
theorem Yi{ps:List (List Nat)}{i:Nat}(c:Nat)(v:List Nat)(h:i<ps.length):C5 c (ps.set i v)+(ps.getD i []).count c=C5 c ps+v.count c:=sum_set (fun l=>l.count c) v [] ps i h
theorem Fq{qs:List (List bA)}{i:Nat}(c:Nat)(h:i<qs.length):pP c (qs.getD i [])<=BJ c qs:=tO (pP c) [] qs i h
theorem aaF{ps:List (List Nat)}{i:Nat}(c:Nat)(h:i<ps.length):(ps.getD i []).count c<=C5 c ps:=tO (fun l=>l.count c) [] ps i h
theorem xY{c:Nat}{p:bA}:∀ {q:List bA},p∈q->p.cards.count c<=pP c q
 |a::q,h=>by
  rw[C4];rcases aM.mp h with e|h
  ·subst e;omega
  ·have:=xY (c:=c) h;omega
theorem pd{p:bA}:∀ {q:List bA},p∈q->1<=pf p.origin q
 |a::q,h=>by
  rw[oE];rcases aM.mp h with e|h
  ·subst e;rw[if_pos rfl];omega
  ·have:=pd h;omega
structure Yu(n:Nat)(t:Table):Prop where
 cl:t.cards.length=n*size t
 off:∀k,k<4->t.off.getD k 0=n*t.setup.recipe.getD k 0
 cs:∀x∈t.cards,x<t.setup.kinds.length
structure Str(t:Table):Prop where
 ql:t.queues.length=t.setup.seats
 pl:t.pools.length=t.setup.seats
 ll:t.looks.length=t.setup.seats
 one:∀c,BJ c t.queues+C5 c t.pools=if 1<=c/\c<=t.cards.length then 1 else 0
 OM:∀o,w6 o t.queues<=1
 pk:∀i,∀p∈queue t i,p.cards≠ []/\p.origin<t.setup.seats/\∀c∈p.cards,(c-1)/size t=t.round*t.setup.seats+p.origin
 lk:∀i,∀x∈lookedAt t i,x.2≠ []/\∀c∈x.2,(c-1)/size t=x.1/\1<=c/\c<=t.cards.length
structure fw(t:Table):Prop where
 su:gT t.setup
 sh:t.sheets=mixed t.setup
 Ab:t.off.length=4
 rd:t.round<=t.setup.rounds
 cnt:Yu (if over t=true then t.setup.rounds*t.setup.seats else(t.round+1)*t.setup.seats) t
 str:Str t
 LS:over t=true->∀i,queue t i=[]
theorem size_pos{t:Table}(h:gT t.setup):0<size t:=h.Ku.1
theorem vM(t:Table)(c:Nat):(cN t).count c=if t.cards.length+1<=c/\c<=t.cards.length+(eG t).length then 1 else 0:=by
 unfold cN;generalize (eG t).length=n;generalize t.cards.length=m;induction n with
 |zero=>
  rw[if_neg (by omega)];rfl
 |succ n ih=>
  rw[dj,aF,dZ,ih];simp only[bo,oh,mG,zI];by_cases e:c=m+n+1
  ·subst e;rw[if_neg (show ¬(m+1<=m+n+1/\m+n+1<=m+n)by omega),if_pos (show m+1<=m+n+1/\m+n+1<=m+(n+1)by omega)];simp
  ·have h2:¬(m+n+1==c)=true:=by simp;omega
   rw[if_neg h2];by_cases k:m+1<=c/\c<=m+n
   ·rw[if_pos k,if_pos (by omega)]
   ·rw[if_neg k,if_neg (by omega)]
theorem tN{t:Table}{c:Nat}(h:c∈cN t):t.cards.length+1<=c/\c<=t.cards.length+(eG t).length:=by
 have:=cU.mpr h;rw[vM]at this;split at this
 ·assumption
 ·omega
theorem CG(t:Table):(cN t).length=(eG t).length:=by simp[cN]
def Va(i:Nat)(t:Table):Prop:=∀j,i<=j->queue t j=[]
structure lg(i:Nat)(t:Table):Prop where
 su:gT t.setup
 sh:t.sheets=mixed t.setup
 Ab:t.off.length=4
 rd:t.round<t.setup.rounds
 cnt:Yu (t.round*t.setup.seats+i) t
 str:Str t
 LS:Va i t
 OM:∀o,i<=o->w6 o t.queues=0
theorem DG{t:Table}{i:Nat}(h:lg i t)(hi:i<t.setup.seats):lg (i+1) (openAt t i):=by
 have hlen:(eG t).length=size t:=CF h.su.acr;have hsz:=size_pos h.su;have Jq:i<t.queues.length:=by rw[h.str.ql];exact hi
 have hll:i<t.looks.length:=by rw[h.str.ll];exact hi
 have he:t.queues.getD i []=[]:=h.LS i (ao _);have Uw:∀c∈cN t,(c-1)/size t=t.round*t.setup.seats+i:=by
  intro c hc;have q:=tN hc;rw[hlen,h.cnt.cl]at q;have e:c-1=(t.round*t.setup.seats+i)*size t+(c-1-(t.round*t.setup.seats+i)*size t):=by omega
  rw[e,lP,Nat.mul_add_div hsz,Nat.div_eq_of_lt (by rw[lP];omega)];omega
 have j1:cN t≠ []:=by
  intro e;have:=CG t;rw[e,hlen]at this;simp at this;omega
 have aad:(openAt t i).queues=t.queues.set i [⟨i,0,cN t⟩]:=rfl;have aal:(openAt t i).cards=t.cards++eG t:=rfl;refine⟨h.su,h.sh,?_,h.rd,⟨?_,?_,?_⟩,⟨?_,h.str.pl,?_,?_,?_,?_,?_⟩,?_,?_⟩
 ·rw[CJ];simp
 ·rw[aal,ai,h.cnt.cl,hlen];show _=(t.round*t.setup.seats+(i+1))*size t;rw[<-B0,EZ]
 ·intro k hk;show((aG 4).map fun k=>t.off.getD k 0+t.setup.recipe.getD k 0).getD k 0=(t.round*t.setup.seats+(i+1))*t.setup.recipe.getD k 0;rw[<-B0,EZ,<-h.cnt.off k hk,Ct];match k,hk with
  |0,_=>rfl
  |1,_=>rfl
  |2,_=>rfl
  |3,_=>rfl
 ·intro x hx;rw[aal,aH]at hx;rcases hx with hx|hx
  ·exact h.cnt.cs x hx
  ·exact Ky h.su.kinds.1 h.sh x hx
 ·rw[aad,dD];exact h.str.ql
 ·rw[CJ];simp only[dD];exact h.str.ll
 ·intro c;have q1:=Hq c [⟨i,0,cN t⟩] Jq;rw[he,Oa,C4,Oa,vM]at q1;rw[aad,aal,ai];have q2:=h.str.one c;show BJ c (t.queues.set i [⟨i,0,cN t⟩])+C5 c t.pools=_;by_cases a:1<=c/\c<=t.cards.length
  ·rw[if_pos a]at q2;rw[if_neg (show ¬(t.cards.length+1<=c/\c<=t.cards.length+(eG t).length)by omega)]at q1;rw[if_pos (show 1<=c/\c<=t.cards.length+(eG t).length by omega)];omega
  ·rw[if_neg a]at q2;by_cases b:t.cards.length+1<=c/\c<=t.cards.length+(eG t).length
   ·rw[if_pos b]at q1;rw[if_pos (show 1<=c/\c<=t.cards.length+(eG t).length by omega)];omega
   ·rw[if_neg b]at q1;rw[if_neg (show ¬(1<=c/\c<=t.cards.length+(eG t).length)by omega)];omega
 ·intro o;have q1:=wZ o [⟨i,0,cN t⟩] Jq;rw[he,wY,oE,wY]at q1;rw[aad];have q2:=h.str.OM o;by_cases e:i=o
  ·subst e;have q3:=h.OM i (ao _);rw[if_pos rfl]at q1;omega
  ·rw[if_neg e]at q1;omega
 ·intro j p hp;show p.cards≠ []/\p.origin<t.setup.seats/\∀c∈p.cards,(c-1)/size t=t.round*t.setup.seats+p.origin;have vU:p∈(t.queues.set i [⟨i,0,cN t⟩]).getD j []:=hp;by_cases e:i=j
  ·subst e;rw[cy Jq]at vU;rw[aN]at vU;subst vU;exact⟨j1,hi,Uw⟩
  ·rw[cw e]at vU;exact h.str.pk j p vU
 ·intro j x hx;show x.2≠ []/\∀c∈x.2,(c-1)/size t=x.1/\1<=c/\c<=(openAt t i).cards.length;rw[aal,ai];have EG:x∈(t.looks.set i (t.looks.getD i []++[(t.round*t.setup.seats+i,cN t)])).getD j []:=hx;have old:∀j,x∈t.looks.getD j []->x.2≠ []/\∀c∈x.2,(c-1)/size t=x.1/\1<=c/\c<=t.cards.length+(eG t).length:=by
   intro j hx;have q:=h.str.lk j x hx;exact⟨q.1,fun c hc=>⟨(q.2 c hc).1,(q.2 c hc).2.1,by have:=(q.2 c hc).2.2;omega⟩⟩
  by_cases e:i=j
  ·subst e;rw[cy hll,aH,aN]at EG;rcases EG with EG|EG
   ·exact old i EG
   ·subst EG;refine⟨j1,fun c hc=>⟨Uw c hc,?_,?_⟩⟩
    ·have:=tN hc;omega
    ·have:=tN hc;omega
  ·rw[cw e]at EG;exact old j EG
 ·intro j hj;show(t.queues.set i [⟨i,0,cN t⟩]).getD j []=[];rw[cw (by omega)];exact h.LS j (by omega)
 ·intro o ho;have q1:=wZ o [⟨i,0,cN t⟩] Jq;rw[he,wY,oE,wY,if_neg (show ¬i=o by omega)]at q1;have:=h.OM o (by omega);rw[aad];omega
theorem Kc(t:Table)(i:Nat):(openAt t i).setup=t.setup:=rfl
theorem Ks(t:Table)(i:Nat):(openAt t i).round=t.round:=rfl
theorem A1(t:Table)(i:Nat):(openAt t i).pools=t.pools:=rfl
theorem gJ{β:Type}(f:β->Nat->β)(b:β)(n:Nat):(aG (n+1)).foldl f b=f ((aG n).foldl f b) n:=by
 rw[dj,om];rfl
theorem RG{t:Table}(h:lg 0 t):∀n,n<=t.setup.seats->lg n ((aG n).foldl openAt t)/\((aG n).foldl openAt t).setup=t.setup/\((aG n).foldl openAt t).round=t.round/\((aG n).foldl openAt t).pools=t.pools
 |0,_=>⟨h,rfl,rfl,rfl⟩
 |n+1,hn=>by
  obtain⟨a,b,c,d⟩:=RG h n (by omega);rw[gJ];refine⟨DG a (by rw[b];omega),?_,?_,?_⟩
  ·rw[Kc,b]
  ·rw[Ks,c]
  ·rw[A1,d]
theorem GC{t:Table}(h:lg 0 t):fw (openAll t)/\(openAll t).setup=t.setup/\(openAll t).round=t.round/\(openAll t).pools=t.pools:=by
 obtain⟨a,b,c,d⟩:=RG h t.setup.seats (ao _);refine⟨?_,b,c,d⟩;have hov:over (openAll t)=false:=by
  show decide ((openAll t).setup.rounds<=(openAll t).round)=false;rw[show(openAll t).setup=t.setup from b,show(openAll t).round=t.round from c];exact decide_eq_false (by have:=h.rd;omega)
 refine⟨a.su,a.sh,a.Ab,rO a.rd,?_,a.str,fun q=>by rw[hov]at q;cases q⟩;rw[hov,if_neg (by decide)];have e:((openAll t).round+1)*(openAll t).setup.seats=(openAll t).round*(openAll t).setup.seats+t.setup.seats:=by
  rw[EZ,show(openAll t).setup=t.setup from b]
 rw[e];exact a.cnt
theorem rq{s:iy}(h:gT s):fw (begun s)/\(begun s).setup=s/\(begun s).round=0:=by
 have z:∀i,(aO s.seats ([]:List bA)).getD i []=[]:=by
  intro i;rw[aW,nM];split<;>rfl
 have zl:∀i,(aO s.seats ([]:List (Nat×List Nat))).getD i []=[]:=by
  intro i;rw[aW,nM];split<;>rfl
 have hO:lg 0 {setup:=s,sheets:=mixed s,queues:=aO s.seats [],pools:=aO s.seats [],looks:=aO s.seats []}:=by
  refine⟨h,rfl,rfl,h.rounds.1,⟨?_,?_,?_⟩,⟨?_,?_,?_,?_,?_,?_,?_⟩,?_,?_⟩
  ·simp
  ·intro k hk;show([0,0,0,0]:List Nat).getD k 0=(0*s.seats+0)*s.recipe.getD k 0;rw[EY,oN,EY];match k,hk with
   |0,_=>rfl
   |1,_=>rfl
   |2,_=>rfl
   |3,_=>rfl
  ·intro x hx;cases hx
  ·exact dS
  ·exact dS
  ·exact dS
  ·intro c;have a1:BJ c (aO s.seats [])=0:=kC _ _ fun a ha=>by rw[eL ha];rfl
   have a2:C5 c (aO s.seats [])=0:=kC _ _ fun a ha=>by rw[eL ha];rfl
   show BJ c (aO s.seats [])+C5 c (aO s.seats [])=if 1<=c/\c<=0 then 1 else 0
   rw[a1,a2,if_neg (by omega)]
  ·intro o;have a1:w6 o (aO s.seats [])=0:=kC _ _ fun a ha=>by rw[eL ha];rfl
   show w6 o (aO s.seats [])<=1;omega
  ·intro i p hp;have vU:p∈(aO s.seats ([]:List bA)).getD i []:=hp;rw[z]at vU;cases vU
  ·intro i p hp;have vU:p∈(aO s.seats ([]:List (Nat×List Nat))).getD i []:=hp;rw[zl]at vU;cases vU
  ·intro j _;exact z j
  ·intro o _;exact kC _ _ fun a ha=>by rw[eL ha];rfl
 obtain⟨a,b,c,_⟩:=GC hO;exact⟨a,b,c⟩
theorem xH:∀ {l:List Nat},distinct l=true->l.Nodup
 |[],_=>eI
 |x::r,h=>by
  have h':(!r.contains x&&distinct r)=true:=h;rw[aE,aT,aY,decide_eq_false_iff_not]at h';exact cB.mpr ⟨h'.1,xH h'.2⟩
theorem xc:∀ {l:List Nat},l.Nodup->distinct l=true
 |[],_=>rfl
 |x::r,h=>by
  have h':=cB.mp h;show(!r.contains x&&distinct r)=true;rw[aE,aT,aY,decide_eq_false_iff_not];exact⟨h'.1,xc h'.2⟩
def got(cards places:List Nat):List Nat:=places.map fun k=>cards.getD k 0
def left(cards places:List Nat):List Nat:=cards.filter fun c=>!(got cards places).contains c
theorem UD{cards places:List Nat}(hc:cards.Nodup)(hp:places.Nodup)(hl:∀k∈places,k<cards.length):(got cards places).Nodup:=by
 unfold got wg;rw[ip];refine gE ?_ hp;intro a b ha hb j1 e;rw[getD_in (hl a ha),getD_in (hl b hb)]at e;exact j1 ((FA hc).mp e)
theorem aao{cards places:List Nat}(hl:∀k∈places,k<cards.length):∀c∈got cards places,c∈cards:=by
 intro c hc;unfold got at hc;rw[bh]at hc;obtain⟨k,hk,rfl⟩:=hc;rw[getD_in (hl k hk)];exact df _
theorem N6{cards places:List Nat}(hc:cards.Nodup)(hp:places.Nodup)(hl:∀k∈places,k<cards.length)(c:Nat):cards.count c=(got cards places).count c+(left cards places).count c:=by
 by_cases h:c∈got cards places
 ·have a:(got cards places).count c=1:=by
   have:=fY.mp (UD hc hp hl) c;have:=cU.mpr h;omega
  have b:cards.count c=1:=by
   have:=fY.mp hc c;have:=cU.mpr (aao hl c h);omega
  have d:(left cards places).count c=0:=by
   rw[dJ];intro q;unfold left at q;rw[dm]at q;have:=q.2;rw[aY,decide_eq_true h]at this;cases this
  omega
 ·have a:(got cards places).count c=0:=dJ.mpr h;have b:(left cards places).count c=cards.count c:=by
   unfold left;rw[Em];rw[aY,decide_eq_false h];rfl
  omega
theorem Nk{cards places:List Nat}:∀c∈left cards places,c∈cards:=fun c hc=>(dm.mp hc).1
theorem He{α:Type}(f:α->Bool):∀(l:List α),(l.filter f).length+(l.filter fun c=>!f c).length=l.length
 |[]=>rfl
 |a::l=>by
  have q:=He f l;cases e:f a<;>simp[gW,e]<;>omega
structure iQ(t:Table)(p:bA)(places:List Nat):Prop where
 len:places.length=due t p
 nd:places.Nodup
 lt:∀k∈places,k<p.cards.length
theorem qf{t:Table}{p:bA}{places:List Nat}:placesOk t p places=true↔iQ t p places:=by
 unfold placesOk;rw[aE,aE,beq_iff_eq,bD];constructor
 ·rintro⟨a,b,c⟩;exact⟨a,xH b,fun k hk=>of_decide_eq_true (c k hk)⟩
 ·intro h;exact⟨h.len,xc h.nd,fun k hk=>decide_eq_true (h.lt k hk)⟩
theorem CT{t:Table}{i:Nat}(h:queue t i=[]):looks t i=t:=by unfold looks;rw[h]
theorem Ag{t:Table}{i:Nat}{p:bA}{r:List bA}(h:queue t i=p::r):looks t i={t with looks:=t.looks.set i (lookedAt t i++[(t.round*t.setup.seats+p.origin,p.cards)])}:=by unfold looks;rw[h]
structure EN(fl fo:List Nat)(t:Table):Prop where
 ql:t.queues.length=t.setup.seats
 pl:t.pools.length=t.setup.seats
 ll:t.looks.length=t.setup.seats
 one:∀c,BJ c t.queues+C5 c t.pools+fl.count c=if 1<=c/\c<=t.cards.length then 1 else 0
 OM:∀o,w6 o t.queues+fo.count o<=1
 pk:∀i,∀p∈queue t i,p.cards≠ []/\p.origin<t.setup.seats/\∀c∈p.cards,(c-1)/size t=t.round*t.setup.seats+p.origin
 lk:∀i,∀x∈lookedAt t i,x.2≠ []/\∀c∈x.2,(c-1)/size t=x.1/\1<=c/\c<=t.cards.length
theorem Str.toF{t:Table}(h:Str t):EN [] [] t:=⟨h.ql,h.pl,h.ll,fun c=>h.one c,fun o=>h.OM o,h.pk,h.lk⟩
theorem EN.toS{t:Table}(h:EN [] [] t):Str t:=⟨h.ql,h.pl,h.ll,fun c=>h.one c,fun o=>h.OM o,h.pk,h.lk⟩
theorem EN.looks{fl fo:List Nat}{t:Table}(h:EN fl fo t)(i:Nat):EN fl fo (looks t i):=by
 cases e:queue t i with
 |nil=>rw[CT e];exact h
 |cons p r=>
  rw[Ag e];refine⟨h.ql,h.pl,?_,h.one,h.OM,h.pk,?_⟩
  ·show(t.looks.set i _).length=_;rw[dD];exact h.ll
  ·intro j x hx;have EG:x∈(t.looks.set i (lookedAt t i++[(t.round*t.setup.seats+p.origin,p.cards)])).getD j []:=hx;show x.2≠ []/\∀c∈x.2,(c-1)/size t=x.1/\1<=c/\c<=t.cards.length;by_cases k:i=j
   ·subst k;by_cases hl:i<t.looks.length
    ·rw[cy hl,aH,aN]at EG;rcases EG with EG|EG
     ·exact h.lk i x EG
     ·subst EG;have hp:p∈queue t i:=by rw[e];exact ah
      have q:=h.pk i p hp;refine⟨q.1,fun c hc=>⟨q.2.2 c hc,?_⟩⟩;have hc:c∈p.cards:=hc;have a1:1<=pP c (queue t i):=by
       have:=xY (c:=c) hp;have:=cU.mpr hc;omega
      have hi:i<t.queues.length:=by rw[h.ql,<-h.ll];exact hl
      have a2:=Fq (qs:=t.queues) (i:=i) c hi;have a3:=h.one c;have a4:pP c (queue t i)=pP c (t.queues.getD i []):=rfl;split at a3
      ·assumption
      ·omega
    ·rw[List.set_eq_of_length_le (by omega)]at EG;exact h.lk i x EG
   ·rw[cw k]at EG;exact h.lk j x EG
theorem DN(t:Table)(i:Nat):(looks t i).setup=t.setup:=by unfold iD;split<;>rfl
theorem KR(t:Table)(i:Nat):(looks t i).sheets=t.sheets:=by unfold iD;split<;>rfl
theorem Uj(t:Table)(i:Nat):(looks t i).off=t.off:=by unfold iD;split<;>rfl
theorem Ni(t:Table)(i:Nat):(looks t i).cards=t.cards:=by unfold iD;split<;>rfl
theorem Bl(t:Table)(i:Nat):(looks t i).queues=t.queues:=by unfold iD;split<;>rfl
theorem DO(t:Table)(i:Nat):(looks t i).pools=t.pools:=by unfold iD;split<;>rfl
theorem Ng(t:Table)(i:Nat):(looks t i).round=t.round:=by unfold iD;split<;>rfl
structure Frame(t u:Table):Prop where
 setup:u.setup=t.setup
 sheets:u.sheets=t.sheets
 off:u.off=t.off
 cards:u.cards=t.cards
 round:u.round=t.round
theorem Frame.looks{t u:Table}(h:Frame t u)(i:Nat):Frame t (iD u i):=by
 refine⟨?_,?_,?_,?_,?_⟩
 ·rw[DN];exact h.setup
 ·rw[KR];exact h.sheets
 ·rw[Uj];exact h.off
 ·rw[Ni];exact h.cards
 ·rw[Ng];exact h.round
theorem qo{t:Table}{i:Nat}(hs:0<t.setup.seats):neighbour t i<t.setup.seats:=by
 unfold neighbour;split<;>exact iX _ hs
def nU(t:Table)(i:Nat)(p:bA)(r:List bA)(places:List Nat):Table:=
 looks {t with queues:=t.queues.set i r,pools:=t.pools.set i (pool t i++got p.cards places)} i
def passOn(t a:Table)(i:Nat)(p:bA)(places:List Nat):Table:=
 if (left p.cards places).isEmpty=true then a else
  if (queue a (neighbour t i)).isEmpty=true
  then looks {a with queues:=a.queues.set (neighbour t i) (queue a (neighbour t i)++[⟨p.origin,p.visits+1,left p.cards places⟩])} (neighbour t i)
  else{a with queues:=a.queues.set (neighbour t i) (queue a (neighbour t i)++[⟨p.origin,p.visits+1,left p.cards places⟩])}
def kM(b:Table):Table:=
 if b.queues.all (fun q=>q.isEmpty)=true then
  if over {b with round:=b.round+1}=true then{b with round:=b.round+1}else openAll {b with round:=b.round+1}
 else b
theorem AN{t:Table}{i:Nat}{p:bA}{r:List bA}{places:List Nat}(h:queue t i=p::r):taken t i places=kM (passOn t (nU t i p r places) i p places):=by
 unfold taken;rw[h];rfl
theorem oC{fl fo:List Nat}{t:Table}(h:EN fl fo t){i:Nat}(hi:i<t.setup.seats){p:bA}(hp:p∈queue t i):p.cards.Nodup:=by
 rw[fY];intro c;have a1:=xY (c:=c) hp;have a2:=Fq (qs:=t.queues) (i:=i) c (by rw[h.ql];exact hi);have a3:=h.one c;have a4:pP c (queue t i)=pP c (t.queues.getD i []):=rfl;split at a3<;>omega
theorem wX{t:Table}(h:Str t){i:Nat}(hi:i<t.setup.seats){p:bA}{r:List bA}(hq:queue t i=p::r){places:List Nat}(ok:iQ t p places):EN (left p.cards places) [p.origin] (nU t i p r places):=by
 unfold nU;apply EN.looks;have Jq:i<t.queues.length:=by rw[h.ql];exact hi
 have tQ:i<t.pools.length:=by rw[h.pl];exact hi
 have hp:p∈queue t i:=by rw[hq];exact ah
 have nd:=oC h.toF hi hp;have lU:t.queues.getD i []=p::r:=hq;refine⟨?_,?_,h.ll,?_,?_,?_,h.lk⟩
 ·show(t.queues.set i r).length=_;rw[dD];exact h.ql
 ·show(t.pools.set i _).length=_;rw[dD];exact h.pl
 ·intro c;show BJ c (t.queues.set i r)+C5 c (t.pools.set i (pool t i++got p.cards places))+(left p.cards places).count c=if 1<=c/\c<=t.cards.length then 1 else 0
  rw[<-h.one c];have a1:=Hq c r Jq;rw[lU,C4]at a1;have a2:=Yi c (pool t i++got p.cards places) tQ;rw[dZ]at a2;have a3:(pool t i).count c=(t.pools.getD i []).count c:=rfl;have a4:=N6 nd ok.nd ok.lt c;omega
 ·intro o;show w6 o (t.queues.set i r)+_<=1;have a1:=wZ o r Jq;rw[lU,oE]at a1;have a2:=h.OM o;rw[mG,zI];by_cases e:p.origin=o
  ·rw[if_pos e]at a1;rw[if_pos (beq_iff_eq.mpr e)];omega
  ·rw[if_neg e]at a1;rw[if_neg (by rw[beq_iff_eq];exact e)];omega
 ·intro j q hj;have C0:q∈(t.queues.set i r).getD j []:=hj;by_cases e:i=j
  ·subst e;rw[cy Jq]at C0;exact h.pk i q (by rw[hq];exact aA _ C0)
  ·rw[cw e]at C0;exact h.pk j q C0
theorem pb(t:Table)(i:Nat)(p:bA)(r:List bA)(places:List Nat):Frame t (nU t i p r places):=by
 unfold nU;apply Frame.looks;exact⟨rfl,rfl,rfl,rfl,rfl⟩
theorem qg{t a:Table}(h:Frame t a)(i:Nat)(p:bA)(places:List Nat):Frame t (passOn t a i p places):=by
 unfold passOn;split
 ·exact h
 ·split
  ·apply Frame.looks
   exact⟨h.setup,h.sheets,h.off,h.cards,h.round⟩
  ·exact⟨h.setup,h.sheets,h.off,h.cards,h.round⟩
theorem ug{t a:Table}{i:Nat}{p:bA}{places:List Nat}(ha:EN (left p.cards places) [p.origin] a)(fr:Frame t a)(hs:0<t.setup.seats)
  (hp:p.origin<t.setup.seats/\∀c∈p.cards,(c-1)/size t=t.round*t.setup.seats+p.origin):Str (passOn t a i p places):=by
 have weak:left p.cards places=[]->Str a:=fun e=>by
  refine⟨ha.ql,ha.pl,ha.ll,fun c=>?_,fun o=>?_,ha.pk,ha.lk⟩
  ·have q:=ha.one c;rw[e,zI]at q;exact q
  ·have:=ha.OM o;omega
 have hsz:size a=size t:=by unfold size;rw[fr.setup]
 have hj:neighbour t i<a.queues.length:=by rw[ha.ql,fr.setup];exact qo hs
 have main:left p.cards places≠ []->Str {a with queues:=a.queues.set (neighbour t i) (queue a (neighbour t i)++[⟨p.origin,p.visits+1,left p.cards places⟩])}:=by
  intro ne;refine⟨?_,ha.pl,ha.ll,?_,?_,?_,ha.lk⟩
  ·show(a.queues.set _ _).length=_;rw[dD];exact ha.ql
  ·intro c;show BJ c (a.queues.set (neighbour t i) _)+C5 c a.pools=if 1<=c/\c<=a.cards.length then 1 else 0
   rw[<-ha.one c];have a1:=Hq c (queue a (neighbour t i)++[⟨p.origin,p.visits+1,left p.cards places⟩]) hj;rw[UQ]at a1;have a2:pP c (queue a (neighbour t i))=pP c (a.queues.getD (neighbour t i) []):=rfl;have a3:(Pack.mk p.origin (p.visits+1) (left p.cards places)).cards.count c=(left p.cards places).count c:=rfl;omega
  ·intro o;show w6 o (a.queues.set (neighbour t i) _)<=1;have a1:=wZ o (queue a (neighbour t i)++[⟨p.origin,p.visits+1,left p.cards places⟩]) hj;rw[TY]at a1;have a2:pf o (queue a (neighbour t i))=pf o (a.queues.getD (neighbour t i) []):=rfl;have a3:=ha.OM o;rw[mG,zI]at a3;by_cases e:p.origin=o
   ·rw[if_pos (beq_iff_eq.mpr e)]at a3;rw[if_pos e]at a1;omega
   ·rw[if_neg (by rw[beq_iff_eq];exact e)]at a3;rw[if_neg e]at a1;omega
  ·intro j q hq;have lU:q∈(a.queues.set (neighbour t i) (queue a (neighbour t i)++[⟨p.origin,p.visits+1,left p.cards places⟩])).getD j []:=hq;show q.cards≠ []/\q.origin<a.setup.seats/\∀c∈q.cards,(c-1)/size a=a.round*a.setup.seats+q.origin;by_cases e:neighbour t i=j
   ·subst e;rw[cy hj,aH,aN]at lU;rcases lU with lU|lU
    ·exact ha.pk _ q lU
    ·subst lU;refine⟨ne,?_,?_⟩
     ·rw[fr.setup];exact hp.1
     ·intro c hc;rw[hsz,fr.setup,fr.round];exact hp.2 c (Nk c hc)
   ·rw[cw e]at lU;exact ha.pk j q lU
 unfold passOn;split
 ·rename_i e;exact weak (fZ.mp e)
 ·rename_i e;have ne:left p.cards places≠ []:=fun q=>e (fZ.mpr q)
  split
  ·exact((main ne).toF.looks _).toS
  ·exact main ne
theorem NV{b:Table}(su:gT b.setup)(sh:b.sheets=mixed b.setup)(Ab:b.off.length=4)(rd:b.round<b.setup.rounds)(cnt:Yu ((b.round+1)*b.setup.seats) b)(str:Str b):fw (kM b)/\(kM b).setup=b.setup/\(kM b).pools=b.pools:=by
 unfold kM;split
 ·rename_i e;rw[bD]at e;have LS:∀i,b.queues.getD i []=[]:=by
   intro i;by_cases h:i<b.queues.length
   ·rw[getD_in h];exact fZ.mp (e _ (df h))
   ·exact Bo (by omega)
  have aeP:Str {b with round:=b.round+1}:=by
   refine⟨str.ql,str.pl,str.ll,str.one,str.OM,?_,str.lk⟩;intro i p hp;have vU:p∈b.queues.getD i []:=hp;rw[LS]at vU;cases vU
  split
  ·rename_i ov;refine⟨⟨su,sh,Ab,?_,?_,aeP,fun _=>LS⟩,rfl,rfl⟩
   ·show b.round+1<=b.setup.rounds;omega
   ·rw[ov,if_pos rfl];have e2:b.setup.rounds=b.round+1:=by
     have:=of_decide_eq_true (show decide (b.setup.rounds<=b.round+1)=true from ov);omega
    show Yu (b.setup.rounds*b.setup.seats) _;rw[e2];exact⟨cnt.cl,cnt.off,cnt.cs⟩
  ·rename_i ov;have lM:b.round+1<b.setup.rounds:=by
    have:¬b.setup.rounds<=b.round+1:=fun q=>ov (decide_eq_true q)
    omega
   have hO:lg 0 {b with round:=b.round+1}:=by
    refine⟨su,sh,Ab,lM,⟨cnt.cl,cnt.off,cnt.cs⟩,aeP,fun j _=>LS j,?_⟩;intro o _;exact kC _ _ fun a ha=>by rw[fZ.mp (e a ha)];rfl
   obtain⟨a1,a2,_,a3⟩:=GC hO;exact⟨a1,a2,a3⟩
 ·rename_i e;have nov:over b=false:=decide_eq_false (by omega);refine⟨⟨su,sh,Ab,by omega,?_,str,fun q=>by rw[nov]at q;cases q⟩,rfl,rfl⟩;rw[nov,if_neg (by decide)];exact cnt
theorem zW{t:Table}(h:over t=false):t.round<t.setup.rounds:=by
 have:=of_decide_eq_false (show decide (t.setup.rounds<=t.round)=false from h);omega
theorem AM{t:Table}(h:fw t)(ho:over t=false){i:Nat}(hi:i<t.setup.seats){p:bA}{r:List bA}(hq:queue t i=p::r){places:List Nat}(ok:iQ t p places):
  fw (taken t i places)/\(taken t i places).setup=t.setup:=by
 rw[AN hq];have hp:p∈queue t i:=by rw[hq];exact ah
 have s1:=wX h.str hi hq ok;have f1:=pb t i p r places;have f2:=qg f1 i p places;have s2:=ug (i:=i) s1 f1 (by omega) (h.str.pk i p hp).2;have c0:=h.cnt;rw[ho,if_neg (by decide)]at c0;have c2:Yu (((passOn t (nU t i p r places) i p places).round+1)*(passOn t (nU t i p r places) i p places).setup.seats) (passOn t (nU t i p r places) i p places):=by
  refine⟨?_,?_,?_⟩
  ·unfold size;rw[f2.round,f2.setup,f2.cards];exact c0.cl
  ·rw[f2.round,f2.setup,f2.off];exact c0.off
  ·rw[f2.setup,f2.cards];exact c0.cs
 obtain⟨a1,a2,_⟩:=NV (by rw[f2.setup];exact h.su) (by rw[f2.sheets,f2.setup];exact h.sh) (by rw[f2.off];exact h.Ab) (by rw[f2.round,f2.setup];exact zW ho) c2 s2;exact⟨a1,a2.trans f2.setup⟩
def allOf(t:Table):List Nat:=t.queues.flatMap (fun q=>q.flatMap fun p=>p.cards)++t.pools.flatMap fun l=>l
theorem count_flatMap{α:Type}(f:α->List Nat)(c:Nat):∀(l:List α),(l.flatMap f).count c=(l.map fun a=>(f a).count c).sum
 |[]=>rfl
 |a::l=>by rw[dE,dZ,count_flatMap f c l];rfl
theorem jZ{α:Type}(f:α->List Nat):∀(l:List α),(l.flatMap f).length=(l.map fun a=>(f a).length).sum
 |[]=>rfl
 |a::l=>by rw[dE,ai,jZ f l];rfl
theorem N7(t:Table)(c:Nat):(allOf t).count c=BJ c t.queues+C5 c t.pools:=by
 unfold allOf;rw[dZ,count_flatMap,count_flatMap]
 congr 1
 unfold BJ
 congr 1
 apply bU
 intro q _;rw[count_flatMap];rfl
theorem count_range'(c:Nat):∀(n s:Nat),(HJ s n).count c=if s<=c/\c<s+n then 1 else 0
 |0,s=>by
  rw[if_neg (show ¬(s<=c/\c<s+0)by omega)];rfl
 |n+1,s=>by
  rw[List.range'_succ,mG,count_range' c n (s+1)];by_cases e:s=c
  ·rw[if_neg (show ¬(s+1<=c/\c<s+1+n)by omega),if_pos (beq_iff_eq.mpr e),if_pos (show s<=c/\c<s+(n+1)by omega)]
  ·rw[if_neg (show ¬((s==c)=true)by rw[beq_iff_eq];exact e)];by_cases k:s+1<=c/\c<s+1+n
   ·rw[if_pos k,if_pos (show s<=c/\c<s+(n+1)by omega)]
   ·rw[if_neg k,if_neg (show ¬(s<=c/\c<s+(n+1))by omega)]
theorem QH{t:Table}(h:Str t):(allOf t).Perm (HJ 1 t.cards.length):=by
 rw[rH];intro c;rw[N7,h.one c,count_range'];by_cases k:1<=c/\c<=t.cards.length
 ·rw[if_pos k,if_pos (by omega)]
 ·rw[if_neg k,if_neg (by omega)]
theorem BP{t:Table}(h:Str t):(allOf t).length=t.cards.length:=by
 rw[(QH h).length_eq,VB]
def wz(t:Table):Nat:=(t.pools.map nL).sum
theorem Mh{t:Table}(h:Str t):wz t<=t.cards.length:=by
 have a:=BP h;unfold allOf at a;rw[ai,jZ (fun l=>l) t.pools]at a;have:wz t=(t.pools.map fun a=>a.length).sum:=rfl;omega
theorem uZ{t:Table}(h:Str t){i:Nat}(hi:i<t.setup.seats):(pool t i).length<=t.cards.length:=by
 have a:=tO nL [] t.pools i (by rw[h.pl];exact hi);have b:=Mh h;unfold wz at b;have:(pool t i).length=(t.pools.getD i []).length:=rfl;omega
theorem gY{t:Table}(h:fw t):t.cards.length<=640:=by
 rw[h.cnt.cl];have h1:=h.su.seats.2;have h2:=h.su.rounds.2;have h3:size t<=20:=h.su.Ku.2;have h4:(if over t=true then t.setup.rounds*t.setup.seats else(t.round+1)*t.setup.seats)<=32:=by
  split
  ·exact LK h2 h1
  ·rename_i ov;have:t.round<t.setup.rounds:=zW (by cases e:over t;rfl;exact absurd e ov);exact LK (show t.round+1<=4 by omega) h1
 exact LK h4 h3
theorem uf{t u:Table}(h:fw t){i:Nat}(hi:i<t.setup.seats){places:List Nat}(e:picked t i places=.ok u):
  over t=false/\∃p r,queue t i=p::r/\iQ t p places/\u=taken t i places:=by
 unfold picked at e;cases ho:over t with
 |true=>rw[ho,if_pos rfl]at e;cases e
 |false=>
  rw[ho,if_neg (by decide)]at e;refine⟨rfl,?_⟩;cases hq:queue t i with
  |nil=>rw[hq]at e;cases e
  |cons p r=>
   rw[hq]at e;dsimp only at e;cases hp:placesOk t p places with
   |false=>rw[hp,if_pos rfl]at e;cases e
   |true=>
    rw[hp,if_neg (by decide)]at e;exact⟨p,r,rfl,qf.mp hp,(yM e).symm⟩
theorem Gv{t u:Table}(h:fw t){i:Nat}(hi:i<t.setup.seats){places:List Nat}(e:picked t i places=.ok u):fw u/\u.setup=t.setup:=by
 obtain⟨ho,p,r,hq,ok,rfl⟩:=uf h hi e;exact AM h ho hi hq ok
theorem Hh(b:Table):(kM b).pools=b.pools:=by
 unfold kM;have:∀t:Table,(openAll t).pools=t.pools:=by
  intro t;unfold openAll;generalize t.setup.seats=n;induction n with
  |zero=>rfl
  |succ n ih=>rw[gJ,A1,ih]
 split
 ·split
  ·rfl
  ·rw[this]
 ·rfl
theorem Kx(t a:Table)(i:Nat)(p:bA)(places:List Nat):(passOn t a i p places).pools=a.pools:=by
 unfold passOn;split
 ·rfl
 ·split
  ·rw[DO]
  ·rfl
theorem Dn{t:Table}{i:Nat}{p:bA}{r:List bA}{places:List Nat}(h:queue t i=p::r):(taken t i places).pools=t.pools.set i (pool t i++got p.cards places):=by
 rw[AN h,Hh,Kx,nU,DO]
theorem Mi{t:Table}(hs:Str t){i:Nat}(hi:i<t.setup.seats){p:bA}{r:List bA}{places:List Nat}(h:queue t i=p::r):wz (taken t i places)=wz t+places.length:=by
 unfold wz;rw[Dn h];have a:=sum_set nL (pool t i++got p.cards places) [] t.pools i (by rw[hs.pl];exact hi);rw[ai]at a;have:(pool t i).length=(t.pools.getD i []).length:=rfl;have:(got p.cards places).length=places.length:=by simp[got]
 omega
theorem So{t:Table}(h:fw t){i:Nat}{p:bA}(hp:p∈queue t i):1<=due t p/\due t p<=3:=by
 have a:=(h.str.pk i p hp).1;have b:=h.su.takes;unfold due;have:1<=p.cards.length:=iF.mpr a;omega
theorem u5{t:Table}(h:fw t){i:Nat}(hi:i<t.setup.seats){p:bA}(hp:p∈queue t i):p.cards.length<=size t:=by
 have nd:=oC h.str.toF hi hp;have key:=(h.str.pk i p hp).2.2;have sz:=size_pos h.su;have sub:∀c∈p.cards,(t.round*t.setup.seats+p.origin)*size t+1<=c/\c<(t.round*t.setup.seats+p.origin)*size t+1+size t:=by
  intro c hc;have k:=key c hc;have c1:1<=c:=by
   have a1:=xY (c:=c) hp;have a2:=Fq (qs:=t.queues) (i:=i) c (by rw[h.str.ql];exact hi);have a3:=h.str.one c;have a4:pP c (queue t i)=pP c (t.queues.getD i []):=rfl;have a5:=cU.mpr hc;split at a3<;>omega
  have d1:=Nat.div_add_mod (c-1) (size t);have d2:=iX (c-1) sz;rw[k,lP]at d1;omega
 generalize (t.round*t.setup.seats+p.origin)*size t+1=s at sub;have perm:p.cards.Perm ((HJ s (size t)).filter fun c=>p.cards.contains c):=by
  rw[rH];intro c;by_cases hc:c∈p.cards
  ·rw[Em (by rw[aY];exact decide_eq_true hc),count_range',if_pos (sub c hc)];have:=fY.mp nd c;have:=cU.mpr hc;omega
  ·rw[dJ.mpr hc]
   symm
   rw[dJ];intro q;have:=(dm.mp q).2;rw[aY,decide_eq_false hc]at this;cases this
 rw[perm.length_eq];have:=kq (fun c=>p.cards.contains c) (HJ s (size t));rw[VB]at this;exact this
theorem qa:∀(ms:List (Nat×List Nat)) (n:Nat) (t u v:Table) (x:Nat×List Nat),through n t ms=.ok u->x.1<u.setup.seats->picked u x.1 x.2=.ok v->through n t (ms++[x])=.ok v
 |[],n,t,u,v,x,h,hx,hp=>by
  have e:t=u:=yM h;subst e;show through n t [x]=.ok v;unfold through;rw[if_neg (by omega),hp];rfl
 |y::r,n,t,u,v,x,h,hx,hp=>by
  show through n t (y::(r++[x]))=.ok v;unfold through at h⊢;by_cases k:t.setup.seats<=y.1
  ·rw[if_pos k]at h;cases h
  ·rw[if_neg k]at h⊢;cases e:picked t y.1 y.2 with
   |error z=>rw[e]at h;cases h
   |ok w=>
    rw[e]at h;exact qa r _ w u v x h hx hp
theorem AL:∀(ms:List (Nat×List Nat)) (k n:Nat) (t u:Table),through n t ms=.ok u->∃v,through n t (ms.take k)=.ok v
 |[],k,n,t,u,h=>⟨t,by simp[through]⟩
 |x::r,0,n,t,u,h=>⟨t,rfl⟩
 |x::r,k+1,n,t,u,h=>by
  rw[AE];unfold through at h⊢;by_cases q:t.setup.seats<=x.1
  ·rw[if_pos q]at h;cases h
  ·rw[if_neg q]at h⊢;cases e:picked t x.1 x.2 with
   |error z=>rw[e]at h;cases h
   |ok w=>
    rw[e]at h;exact AL r k _ w u h
theorem wx:∀(ms:List (Nat×List Nat)) (n:Nat) (t u:Table),fw t->through n t ms=.ok u->
  fw u/\u.setup=t.setup/\wz t+ms.length<=wz u/\∀m∈ms,m.1<t.setup.seats/\1<=m.2.length/\m.2.length<=3/\∀k∈m.2,k<20
 |[],n,t,u,h,e=>by
  have e:t=u:=yM e;subst e;exact⟨h,rfl,ao _,fun m hm=>by cases hm⟩
 |x::r,n,t,u,h,e=>by
  unfold through at e;by_cases q:t.setup.seats<=x.1
  ·rw[if_pos q]at e;cases e
  ·rw[if_neg q]at e;cases e2:picked t x.1 x.2 with
   |error z=>rw[e2]at e;cases e
   |ok w=>
    rw[e2]at e;have hx:x.1<t.setup.seats:=by omega
    obtain⟨ho,p,rr,hq,ok,rfl⟩:=uf h hx e2;have hw:=AM h ho hx hq ok;obtain⟨a1,a2,a3,a4⟩:=wx r _ _ u hw.1 e;have hp:p∈queue t x.1:=by rw[hq];exact ah
    have d:=So h hp;rw[Mi h.str hx hq,ok.len]at a3;refine⟨a1,a2.trans hw.2,by rw[az];omega,?_⟩;intro m hm;rcases aM.mp hm with e3|hm
    ·subst e3;refine⟨hx,by rw[ok.len];omega,by rw[ok.len];omega,fun k hk=>?_⟩;have:=ok.lt k hk;have:=u5 h hx hp;have:size t<=20:=h.su.Ku.2;omega
    ·have:=a4 m hm;rw[hw.2]at this;exact this
structure jm(s:dQ):Prop where
 tab:(s.table={}/\s.moves=[])\/(fw s.table/\through 1 (begun s.table.setup) s.moves=.ok s.table)
theorem Mn:jm start:=⟨.inl ⟨rfl,rfl⟩⟩
theorem gj{n lo hi:Int}:inr n lo hi=true↔lo<=n/\n<=hi:=by
 unfold inr;rw[aE,decide_eq_true_iff,decide_eq_true_iff]
theorem pq:∀ {l:List Int},kindsIn l=true->l.length=3*(kindsOf l).length
 |[],_=>rfl
 |[_],h=>by cases h
 |[_,_],h=>by cases h
 |a::b::c::r,h=>by
  have h':((inr a 0 3&&(inr b 0 15&&inr c 1 20))&&kindsIn r)=true:=h;rw[aE]at h';have:=pq h'.2;show r.length+1+1+1=3*((kindsOf r).length+1);omega
theorem xt:∀ {l:List Int},kindsIn l=true->∀k∈kindsOf l,k.cls<=3/\k.colours<=15/\1<=k.copies/\k.copies<=20
 |[],_,k,hk=>by cases hk
 |[_],h,_,_=>by cases h
 |[_,_],h,_,_=>by cases h
 |a::b::c::r,h,k,hk=>by
  have h':((inr a 0 3&&(inr b 0 15&&inr c 1 20))&&kindsIn r)=true:=h;rw[aE,aE,aE,gj,gj,gj]at h';have LR:k∈(⟨a.toNat,b.toNat,c.toNat⟩:Kind)::kindsOf r:=hk;rcases aM.mp LR with e|LR
  ·subst e;dsimp only;omega
  ·exact xt h'.2 k LR
structure LF(n a b c d q r x:Int)(l:List Int):Prop where
 hn:2<=n/\n<=8
 ha:0<=a/\a<=15
 hb:0<=b/\b<=15
 hc:0<=c/\c<=15
 hd:0<=d/\d<=15
 hq:1<=q/\q<=3
 hr:1<=r/\r<=4
 hx:0<=x/\x<=1000000000000000000
 hs:1<=a+b+c+d/\a+b+c+d<=20
 hk:kindsIn l=true
 hl:3<=l.length/\l.length<=192
def tS(n a b c d q r x:Int)(l:List Int):Bool:=inr n 2 8&&(inr a 0 15&&(inr b 0 15&&(inr c 0 15&&(inr d 0 15&&(inr q 1 3&&(inr r 1 4&&(inr x 0 1000000000000000000&&
   (inr (a+b+c+d) 1 20&&(kindsIn l&&(decide (3<=l.length)&&decide (l.length<=192)))))))))))
theorem As{n a b c d q r x:Int}{l:List Int}:tS n a b c d q r x l=true↔LF n a b c d q r x l:=by
 unfold tS;simp only[aE,gj,decide_eq_true_iff];constructor
 ·rintro⟨h1,h2,h3,h4,h5,h6,h7,h8,h9,h10,h11,h12⟩;exact⟨h1,h2,h3,h4,h5,h6,h7,h8,h9,h10,h11,h12⟩
 ·intro h;exact⟨h.hn,h.ha,h.hb,h.hc,h.hd,h.hq,h.hr,h.hx,h.hs,h.hk,h.hl.1,h.hl.2⟩
theorem Mw{n a b c d q r x:Int}{l:List Int}(h:LF n a b c d q r x l)(hl:lacking (setupOf n a b c d q r x l)=false):gT (setupOf n a b c d q r x l):=by
 have h1:=h.hn;have h2:=h.ha;have h3:=h.hb;have h4:=h.hc;have h5:=h.hd;have h6:=h.hq;have h7:=h.hr;have h8:=h.hx;have h9:=h.hs;have h10:=h.hl;have h11:=pq h.hk;refine⟨?_,rfl,?_,?_,?_,?_,?_,?_,xt h.hk,hl⟩
 ·show 2<=n.toNat/\n.toNat<=8;omega
 ·intro k hk;show [a.toNat,b.toNat,c.toNat,d.toNat].getD k 0<=15;match k,hk with
  |0,_=>show a.toNat<=15;omega
  |1,_=>show b.toNat<=15;omega
  |2,_=>show c.toNat<=15;omega
  |3,_=>show d.toNat<=15;omega
 ·show 1<= [a.toNat,b.toNat,c.toNat,d.toNat].sum/\ [a.toNat,b.toNat,c.toNat,d.toNat].sum<=20;simp only[eK,OT];omega
 ·show 1<=q.toNat/\q.toNat<=3;omega
 ·show 1<=r.toNat/\r.toNat<=4;omega
 ·show x.toNat<=_;omega
 ·show 1<=(kindsOf l).length/\(kindsOf l).length<=64;omega
theorem dq{P:dQ×List Int->Prop}{s:dQ}{l:List (Int×Bool)}{k:Unit->dQ×List Int}(h1:∀e:Int,P (s,[e]))(h2:(l.all fun x=>!x.2)=true->P (k ())):P (guarded s l k):=by
 unfold guarded;cases e:l.find? fun x=>x.2 with
 |some x=>exact h1 _
 |none=>
  refine h2 ?_;rw[Ca]at e;rw[bD];intro x hx;have:=e x hx;cases q:x.2
  ·rfl
  ·exact absurd q this
theorem jm.IE{s:dQ}(h:jm s)(hs:0<s.table.setup.seats):fw s.table/\through 1 (begun s.table.setup) s.moves=.ok s.table:=by
 rcases h.tab with ⟨a,_⟩|q
 ·rw[a]at hs;exact absurd hs (by decide)
 ·exact q
theorem zG{s:iy}(h:gT s):jm {table:=begun s}:=by
 obtain⟨a,b,_⟩:=rq h;refine⟨.inr ⟨a,?_⟩⟩;show through 1 (begun (begun s).setup) []=.ok (begun s);rw[b];rfl
theorem X3{s:dQ}(h:jm s){i:Nat}(hi:i<s.table.setup.seats)(places:List Nat):jm (did s i places).1:=by
 obtain⟨a,b⟩:=h.IE (by omega);unfold did;cases e:picked s.table i places with
 |error z=>exact h
 |ok t=>
  have q:=Gv a hi e;refine⟨.inr ⟨q.1,?_⟩⟩;show through 1 (begun t.setup) (s.moves++[(i,places)])=.ok t;rw[q.2];exact qa _ _ _ _ _ (i,places) b hi e
theorem zL{s:dQ}(h:jm s)(hs:0<s.table.setup.seats){ms:List (Nat×List Nat)}{t:Table}(e:through 1 (begun s.table.setup) ms=.ok t):jm {table:=t,moves:=ms}:=by
 obtain⟨a,_⟩:=h.IE hs;obtain⟨b1,b2,_⟩:=rq a.su;obtain⟨c1,c2,_⟩:=wx ms 1 _ t b1 e;refine⟨.inr ⟨c1,?_⟩⟩;show through 1 (begun t.setup) ms=.ok t;rw[c2,b2];exact e
theorem yr{s:dQ}(h:jm s){i:Int}(hi:¬(s.table.setup.seats:Int)<=i)(h0:0<=i):i.toNat<s.table.setup.seats:=by omega
theorem Q9{s:dQ}(h:jm s)(c:Yy):jm (step s c).1:=by
 cases c with
 |begin_ n a b c d q r x l=>
  show jm (guarded s [(-1,!tS n a b c d q r x l),(-6,lacking (setupOf n a b c d q r x l))] _).1;refine dq (P:=fun z=>jm z.1) (fun _=>h) fun g=>?_
  simp only[dM,jk,eM,j5,aE,aT]at g;exact zG (Mw (As.mp g.1) g.2)
 |pick i l=>
  refine dq (P:=fun z=>jm z.1) (fun _=>h) fun g=>?_
  simp only[noSeat,dM,jk,eM,j5,aE,aT,gj,decide_eq_false_iff_not]at g;exact X3 h (yr h g.2 g.1.1.1) _
 |late i=>
  refine dq (P:=fun z=>jm z.1) (fun _=>h) fun g=>?_
  simp only[noSeat,dM,jk,eM,j5,aE,aT,gj,decide_eq_false_iff_not]at g;exact X3 h (yr h g.2 g.1.1) _
 |see i=>exact dq (P:=fun z=>jm z.1) (fun _=>h) fun g=>h
 |pool i=>exact dq (P:=fun z=>jm z.1) (fun _=>h) fun g=>h
 |waits=>exact h
 |sizes i=>exact dq (P:=fun z=>jm z.1) (fun _=>h) fun g=>h
 |stands=>exact h
 |seen i=>exact dq (P:=fun z=>jm z.1) (fun _=>h) fun g=>h
 |gone i=>exact dq (P:=fun z=>jm z.1) (fun _=>h) fun g=>h
 |away i=>exact dq (P:=fun z=>jm z.1) (fun _=>h) fun g=>h
 |colours i=>exact dq (P:=fun z=>jm z.1) (fun _=>h) fun g=>h
 |holders k=>exact dq (P:=fun z=>jm z.1) (fun _=>h) fun g=>h
 |record=>exact h
 |replay l=>
  refine dq (P:=fun z=>jm z.1) (fun _=>h) fun g=>?_
  simp only[dM,jk,eM,j5,aE,aT,beq_eq_false_iff_ne]at g;cases e:readMoves 1 (split 10 (l.map cz))with
  |error n=>exact h
  |ok ms=>
   dsimp only;cases e2:through 1 (begun s.table.setup) ms with
   |error n=>exact h
   |ok t=>exact zL h (by omega) e2
 |back n=>
  refine dq (P:=fun z=>jm z.1) (fun _=>h) fun g=>?_
  simp only[dM,jk,eM,j5,aE,aT,gj,decide_eq_false_iff_not]at g;dsimp only;cases e2:through 1 (begun s.table.setup) (s.moves.take (s.moves.length-n.toNat))with
  |error n=>exact h
  |ok t=>
   refine zL h ?_ e2;rcases h.tab with ⟨_,q⟩|q
   ·rw[q]at g;simp at g;omega
   ·have:=q.1.su.seats;omega
 |truth i=>exact dq (P:=fun z=>jm z.1) (fun _=>h) fun g=>h
 |sheet k=>exact dq (P:=fun z=>jm z.1) (fun _=>h) fun g=>h
theorem jm.xi{s:dQ}(h:jm s):s.moves.length<=640/\∀m∈s.moves,m.1<8/\1<=m.2.length/\m.2.length<=3/\∀k∈m.2,k<20:=by
 rcases h.tab with ⟨_,q⟩|⟨q1,q2⟩
 ·rw[q];exact⟨by decide,fun m hm=>by cases hm⟩
 ·obtain⟨b1,b2,_⟩:=rq q1.su;obtain⟨c1,_,c2,c3⟩:=wx _ _ _ _ b1 q2;have d1:=Mh q1.str;have d2:=gY q1;refine⟨by omega,fun m hm=>?_⟩;have k:=c3 m hm;rw[b2]at k;have k2:=q1.su.seats;exact⟨by omega,k.2⟩
theorem jm.aaJ{s:dQ}(h:jm s)(hs:0<s.table.setup.seats)(k:Nat):∃t,through 1 (begun s.table.setup) (s.moves.take k)=.ok t:=by
 obtain⟨_,b⟩:=h.IE hs;exact AL _ _ _ _ _ b
abbrev NN:=List (Nat×Nat)
def xl(bx:NN)(k:Nat):Option Nat:=(bx.find? fun x=>decide (x.1=k)).map (·.2)
def putN(bx:NN)(k v:Nat):NN:=if (bx.any fun x=>decide (x.1=k))=true then bx.map fun x=>if x.1=k then(k,v)else x else bx++[(k,v)]
def bump(bx:NN)(k:Nat):NN:=putN bx k ((xl bx k).getD 0+1)
def il(ns:List Nat):NN:=ns.foldl bump []
structure sV(pre:List Nat)(bx:NN):Prop where
 asc:(bx.map (·.1)).Pairwise (· < ·)
 mem:∀k c,(k,c)∈bx↔k∈pre/\c=pre.count k
theorem Xd{bx:NN}(asc:(bx.map (·.1)).Pairwise (· < ·)){k c:Nat}(h:(k,c)∈bx):xl bx k=some c:=by
 unfold xl;induction bx with
 |nil=>cases h
 |cons a r ih=>
  rw[bo,B8]at asc;rcases aM.mp h with e|h
  ·subst e;rw[iq];simp
  ·have j1:a.1≠k:=by
    have:=asc.1 k (bh.mpr ⟨(k,c),h,rfl⟩);omega
   rw[iq];simp only[j1,decide_false];exact ih asc.2 h
theorem P1{bx:NN}{k:Nat}(h:∀c,(k,c)∉bx):xl bx k=none:=by
 unfold xl;rw[Ca.mpr]
 ·rfl
 ·intro x hx e;have e:=of_decide_eq_true e;subst e;exact h x.2 hx
theorem sV.nil:sV [] []:=⟨ym,fun k c=>by simp⟩
theorem sV.step{pre:List Nat}{bx:NN}{n:Nat}(h:sV pre bx)(hs:∀x∈pre,x<=n):sV (pre++[n]) (bump bx n):=by
 unfold bump;by_cases hn:n∈pre
 ·have hm:(n,pre.count n)∈bx:=(h.mem _ _).mpr ⟨hn,rfl⟩;rw[Xd h.asc hm];have ha:(bx.any fun x=>decide (x.1=n))=true:=dg.mpr ⟨_,hm,decide_eq_true rfl⟩;unfold putN;rw[if_pos ha];have afK:(bx.map fun x=>if x.1=n then(n,(some (pre.count n)).getD 0+1)else x).map (·.1)=bx.map (·.1):=by
   rw[cO];apply bU;intro x _;show(if x.1=n then(n,(some (pre.count n)).getD 0+1)else x).1=x.1;split
   ·rename_i e;exact e.symm
   ·rfl
  refine⟨by rw[afK];exact h.asc,fun k c=>?_⟩;rw[bh];constructor
  ·rintro⟨x,hx,e⟩;split at e
   ·rename_i e1;have e2:n=k/\pre.count n+1=c:=by
     have:=bz e;exact this
    obtain⟨rfl,rfl⟩:=e2;refine⟨aH.mpr (.inl hn),?_⟩;rw[dZ,lQ]
   ·rename_i e1;subst e;have q:=(h.mem k c).mp hx;refine⟨aH.mpr (.inl q.1),?_⟩;rw[dZ,q.2];have:JW k [n]=0:=dJ.mpr (by simp;exact e1);omega
  ·rintro⟨h1,h2⟩;by_cases e:k=n
   ·subst e;refine⟨(k,pre.count k),hm,?_⟩;rw[if_pos rfl,h2,dZ,lQ];rfl
   ·have h1':k∈pre:=by
     rcases aH.mp h1 with q|q
     ·exact q
     ·exact absurd (aN.mp q) e
    refine⟨(k,c),(h.mem k c).mpr ⟨h1',?_⟩,if_neg e⟩;rw[h2,dZ];have:JW k [n]=0:=dJ.mpr (by simp;exact e);omega
 ·have Xu:∀c,(n,c)∉bx:=fun c q=>hn ((h.mem n c).mp q).1
  rw[P1 Xu];have ha:¬(bx.any fun x=>decide (x.1=n))=true:=by
   intro q;obtain⟨x,hx,e⟩:=dg.mp q;have e:=of_decide_eq_true e;subst e;exact Xu x.2 hx
  unfold putN;rw[if_neg ha];have hc0:pre.count n=0:=dJ.mpr hn;refine⟨?_,fun k c=>?_⟩
  ·rw[aF,ji];refine⟨h.asc,OH _ _,fun a ha b hb=>?_⟩;obtain⟨x,hx,rfl⟩:=bh.mp ha;have hb:b=n:=aN.mp hb;subst hb;have q:=(h.mem x.1 x.2).mp hx;have q1:=hs x.1 q.1;have:x.1≠b:=fun e=>hn (e▸q.1)
   omega
  ·rw[aH,aN];constructor
   ·rintro(q|q)
    ·have q:=(h.mem k c).mp q;refine⟨aH.mpr (.inl q.1),?_⟩;rw[dZ,q.2];have:JW k [n]=0:=dJ.mpr (by simp;exact fun e=>hn (e▸q.1));omega
    ·obtain⟨rfl,rfl⟩:=bz q;refine⟨aH.mpr (.inr ah),?_⟩;rw[dZ,hc0,lQ];rfl
   ·rintro⟨h1,h2⟩;by_cases e:k=n
    ·subst e
     right
     rw[h2,dZ,hc0,lQ];rfl
    ·left
     have h1':k∈pre:=by
      rcases aH.mp h1 with q|q
      ·exact q
      ·exact absurd (aN.mp q) e
     refine(h.mem k c).mpr ⟨h1',?_⟩;rw[h2,dZ];have:JW k [n]=0:=dJ.mpr (by simp;exact e);omega
theorem zF:∀(post pre:List Nat) (bx:NN),(pre++post).Pairwise (· <= ·)->sV pre bx->sV (pre++post) (post.foldl bump bx)
 |[],pre,bx,_,h=>by rw[cV];exact h
 |n::post,pre,bx,hs,h=>by
  have e:pre++n::post=(pre++[n])++post:=by simp
  rw[e]at hs⊢;refine zF post (pre++[n]) (bump bx n) hs (h.step fun x hx=>?_);have:=(ji.mp hs).1;exact(ji.mp this).2.2 x hx n ah
theorem Hn{ns:List Nat}(h:ns.Pairwise (· <= ·)):sV ns (il ns):=zF ns [] [] h .nil
theorem SH:∀ {a b:NN},(a.map (·.1)).Pairwise (· < ·)->(b.map (·.1)).Pairwise (· < ·)->(∀x,x∈a↔x∈b)->a=b
 |[],[],_,_,_=>rfl
 |[],y::b,_,_,h=>by have:=(h y).mpr ah;cases this
 |x::a,[],_,_,h=>by have:=(h x).mp ah;cases this
 |x::a,y::b,ha,hb,h=>by
  rw[bo,B8]at ha hb;have lt1:∀z∈a,x.1<z.1:=fun z hz=>ha.1 z.1 (bh.mpr ⟨z,hz,rfl⟩)
  have lt2:∀z∈b,y.1<z.1:=fun z hz=>hb.1 z.1 (bh.mpr ⟨z,hz,rfl⟩)
  have e:x=y:=by
   rcases aM.mp ((h x).mp ah)with e|q
   ·exact e
   ·rcases aM.mp ((h y).mpr ah)with e|q2
    ·exact e.symm
    ·have:=lt2 x q;have:=lt1 y q2;omega
  subst e
  congr 1
  refine SH ha.2 hb.2 fun z=>?_
  constructor
  ·intro hz;rcases aM.mp ((h z).mp (aA _ hz))with e|q
   ·subst e;exact absurd (lt1 z hz) (by omega)
   ·exact q
  ·intro hz;rcases aM.mp ((h z).mpr (aA _ hz))with e|q
   ·subst e;exact absurd (lt2 z hz) (by omega)
   ·exact q
theorem jv(t:Table)(k:Nat):∀l:List Nat,(l.filter fun c=>sortOf t c==k).length=(l.map (sortOf t)).count k
 |[]=>rfl
 |c::l=>by
  rw[gW,bo,mG,<-jv t k l];split<;>simp_all
theorem To(t:Table)(l:List Nat):((tally t l).map (·.1)).Pairwise (· < ·):=by
 unfold tally;rw[List.map_filterMap];generalize hK:t.setup.kinds.length=K;have h:=OU (n:=K);refine Ep _ ?_ h;intro a b hab c hc d hd;simp only[jW]at hc hd;obtain⟨x,hx,rfl⟩:=hc;obtain⟨y,hy,rfl⟩:=hd;split at hx
 ·cases hx
 ·split at hy
  ·cases hy
  ·cases hx;cases hy;exact hab
theorem Tn(t:Table)(l:List Nat)(hl:∀c∈l,sortOf t c<t.setup.kinds.length)(k n:Nat):(k,n)∈tally t l↔k∈l.map (sortOf t)/\n=(l.map (sortOf t)).count k:=by
 unfold tally;rw[tm];constructor
 ·rintro⟨a,ha,h⟩;dsimp only at h;split at h
  ·cases h
  ·rename_i h0;obtain⟨rfl,rfl⟩:=bz (ax h);rw[jv]at h0⊢;exact⟨cU.mp (by omega),rfl⟩
 ·rintro⟨h1,h2⟩;obtain⟨c,hc,e⟩:=bh.mp h1;refine⟨k,bG.mpr (by rw[<-e];exact hl c hc),?_⟩;dsimp only;rw[jv,<-h2];have:0<n:=by rw[h2];exact cU.mpr h1
  rw[if_neg (by omega)]
theorem vf{t:Table}{l ns:List Nat}(hl:∀c∈l,sortOf t c<t.setup.kinds.length)(hp:ns.Perm (l.map (sortOf t)))(hs:ns.Pairwise (· <= ·)):il ns=tally t l:=by
 have c:=Hn hs;refine SH c.asc (To t l) fun x=>?_
 obtain⟨k,n⟩:=x;rw[c.mem,Tn t l hl,hp.mem_iff,hp.count_eq]
theorem zM{t:Table}{l m:List Nat}(hp:l.Perm m):tally t l=tally t m:=by
 unfold tally
 congr 1
 funext k
 dsimp only;rw[jv,jv,(hp.map (sortOf t)).count_eq]
def yc(l:List (Nat×Nat))(y:Nat×Nat):List (Nat×Nat):=if l.contains y=true then l else l++[y]
theorem QI{l:List (Nat×Nat)}{y x:Nat×Nat}:x∈yc l y↔x∈l\/x=y:=by
 unfold yc;split
 ·rename_i h;have h:y∈l:=by rw[aY]at h;exact of_decide_eq_true h
  constructor
  ·exact .inl
  ·rintro(q|rfl)
   ·exact q
   ·exact h
 ·rw[aH,aN]
theorem Ly{l:List (Nat×Nat)}{y:Nat×Nat}(h:l.Nodup):(yc l y).Nodup:=by
 unfold yc;split
 ·exact h
 ·rename_i q;have q:y∉l:=fun m=>q (by rw[aY];exact decide_eq_true m)
  rw[gw];refine⟨h,cB.mpr ⟨jE,eI⟩,?_⟩;intro a ha b hb e;have hb:=aN.mp hb;subst hb;subst e;exact q ha
theorem vc:∀(ys l:List (Nat×Nat)),l.Nodup->(ys.foldl yc l).Nodup/\∀x,x∈ys.foldl yc l↔x∈l\/x∈ys
 |[],l,h=>⟨h,fun x=>by simp⟩
 |y::ys,l,h=>by
  obtain⟨a,b⟩:=vc ys (yc l y) (Ly h);refine⟨a,fun x=>?_⟩;rw[yl,b x,QI,aM];constructor
  ·rintro((h|h)|h)
   ·exact .inl h
   ·exact .inr (.inl h)
   ·exact .inr (.inr h)
  ·rintro(h|h|h)
   ·exact .inl (.inl h)
   ·exact .inl (.inr h)
   ·exact .inr h
def Jg(t:Table)(i:Nat):List (Nat×Nat):=(lookedAt t i).flatMap fun x=>x.2.map fun c=>(x.1,c)
theorem Ke(t:Table)(i:Nat):seenCards t i=(Jg t i).foldl yc []:=rfl
theorem pJ(t:Table)(i:Nat):(seenCards t i).Nodup:=(vc _ [] eI).1
theorem tE{t:Table}{i:Nat}{x:Nat×Nat}:x∈seenCards t i↔∃cs,(x.1,cs)∈lookedAt t i/\x.2∈cs:=by
 rw[Ke,(vc _ [] eI).2 x];unfold Jg;rw[jF];constructor
 ·rintro(h|⟨y,hy,h⟩)
  ·cases h
  ·obtain⟨c,hc,rfl⟩:=bh.mp h;exact⟨y.2,hy,hc⟩
 ·rintro⟨cs,h1,h2⟩;exact .inr ⟨(x.1,cs),h1,bh.mpr ⟨x.2,h2,rfl⟩⟩
def keyOf(t:Table)(c:Nat):Nat:=(c-1)/size t
theorem AS{t:Table}(h:Str t){i:Nat}{x:Nat×Nat}(hx:x∈seenCards t i):x.1=keyOf t x.2/\1<=x.2/\x.2<=t.cards.length:=by
 obtain⟨cs,h1,h2⟩:=tE.mp hx;have q:=(h.lk i _ h1).2 x.2 h2;exact⟨q.1.symm,q.2⟩
def j7(t:Table)(i c:Nat):Prop:=∃x∈lookedAt t i,c∈x.2
theorem t8{t:Table}(h:Str t){i k c:Nat}:(k,c)∈seenCards t i↔k=keyOf t c/\j7 t i c:=by
 constructor
 ·intro hx;refine⟨(AS h hx).1,?_⟩;obtain⟨cs,h1,h2⟩:=tE.mp hx;exact⟨(k,cs),h1,h2⟩
 ·rintro⟨rfl,⟨k',cs⟩,h1,h2⟩;have q:=(h.lk i _ h1).2 c h2;have e:keyOf t c=k':=q.1;rw[e];exact tE.mpr ⟨cs,h1,h2⟩
theorem CP{l:List (Nat×Nat)}(hn:l.Nodup)(f:Nat->Nat)(hf:∀x∈l,x.1=f x.2):(l.map fun x=>x.2).Nodup:=by
 unfold wg;rw[ip];refine gE ?_ hn;intro a b ha hb j1 e;apply j1;have h1:=hf a ha;have h2:=hf b hb;rw[e,<-h2]at h1;exact SW h1 e
theorem Pr{t:Table}(h:Str t)(i:Nat):((seenCards t i).map fun x=>x.2).Nodup:=CP (pJ t i) (keyOf t) fun x hx=>(AS h hx).1
theorem Wc{t:Table}(h:Str t){i c:Nat}:(c∈(seenCards t i).map fun x=>x.2)↔j7 t i c:=by
 rw[bh];constructor
 ·rintro⟨x,hx,rfl⟩;exact((t8 (k:=x.1) h).mp hx).2
 ·intro hc;exact⟨(keyOf t c,c),(t8 h).mpr ⟨rfl,hc⟩,rfl⟩
theorem Qn{t:Table}(h:Str t)(i:Nat):(gone t i).Nodup:=by
 unfold gone;exact CP ((pJ t i).filter _) (keyOf t) fun x hx=>(AS h (dm.mp hx).1).1
theorem QG{t:Table}(h:Str t)(i:Nat):(away t i).Nodup:=by
 unfold away;exact CP ((pJ t i).filter _) (keyOf t) fun x hx=>(AS h (dm.mp hx).1).1
theorem XE{t:Table}(h:Str t){i c:Nat}:c∈gone t i↔j7 t i c/\c∉pool t i/\c∉lastLook t i (keyOf t c):=by
 unfold gone;rw[bh];constructor
 ·rintro⟨⟨k,c'⟩,hx,rfl⟩;rw[dm]at hx;have q:=(t8 h).mp hx.1;have e:=hx.2;rw[aE,aT,aT,aY,aY,decide_eq_false_iff_not,decide_eq_false_iff_not]at e;dsimp only at e⊢;rw[<-q.1];exact⟨q.2,e⟩
 ·rintro⟨h1,h2,h3⟩;refine⟨(keyOf t c,c),dm.mpr ⟨(t8 h).mpr ⟨rfl,h1⟩,?_⟩,rfl⟩;rw[aE,aT,aT,aY,aY,decide_eq_false_iff_not,decide_eq_false_iff_not];exact⟨h2,h3⟩
theorem Yo{t:Table}(h:Str t){i c:Nat}:c∈away t i↔j7 t i c/\c∉pool t i/\c∈lastLook t i (keyOf t c)/\front t i≠some (keyOf t c):=by
 unfold away;rw[bh];constructor
 ·rintro⟨⟨k,c'⟩,hx,rfl⟩;rw[dm]at hx;have q:=(t8 h).mp hx.1;have e:=hx.2;rw[aE,aE,aT,aY,aY,decide_eq_false_iff_not,decide_eq_true_iff,bne_iff_ne]at e;dsimp only at e⊢;rw[<-q.1];exact⟨q.2,e⟩
 ·rintro⟨h1,h2,h3,h4⟩;refine⟨(keyOf t c,c),dm.mpr ⟨(t8 h).mpr ⟨rfl,h1⟩,?_⟩,rfl⟩;rw[aE,aE,aT,aY,aY,decide_eq_false_iff_not,decide_eq_true_iff,bne_iff_ne];exact⟨h2,h3,h4⟩
theorem o9{a b:List Nat}(ha:a.Nodup)(hb:b.Nodup)(h:∀x,x∈a↔x∈b):a.Perm b:=by
 rw[rH];intro c;have h1:=fY.mp ha c;have h2:=fY.mp hb c;by_cases m:c∈a
 ·have:=cU.mpr m;have:=cU.mpr ((h c).mp m);omega
 ·rw[dJ.mpr m,dJ.mpr fun q=>m ((h c).mpr q)]
theorem Pq{t:Table}(h:Str t){i:Nat}{l:List Nat}(hn:l.Nodup)(hm:∀c,c∈l↔j7 t i c):tally t l=tally t ((seenCards t i).map fun x=>x.2):=
 zM (o9 hn (Pr h i) fun c=>by rw[hm,Wc h])
theorem Qm{t:Table}(h:Str t){i:Nat}{l:List Nat}(hn:l.Nodup)(hm:∀c,c∈l↔j7 t i c/\c∉pool t i/\c∉lastLook t i (keyOf t c)):tally t l=tally t (gone t i):=
 zM (o9 hn (Qn h i) fun c=>by rw[hm,XE h])
theorem QF{t:Table}(h:Str t){i:Nat}{l:List Nat}(hn:l.Nodup)(hm:∀c,c∈l↔j7 t i c/\c∉pool t i/\c∈lastLook t i (keyOf t c)/\front t i≠some (keyOf t c)):tally t l=tally t (away t i):=
 zM (o9 hn (QG h i) fun c=>by rw[hm,Yo h])
theorem tP(l:List (Nat×List Nat))(k k':Nat)(cs:List Nat):(((l++[(k,cs)]).reverse.find? fun x=>x.1==k').elim [] fun x=>x.2)=if k=k' then cs else((l.reverse.find? fun x=>x.1==k').elim [] fun x=>x.2):=by
 rw[List.reverse_append];show((((k,cs)::l.reverse)).find? fun x=>x.1==k').elim [] (fun x=>x.2)=_;rw[iq];by_cases e:k=k'
 ·subst e;simp
 ·rw[if_neg e];have:((k,cs).1==k')=false:=by simp;exact e
  rw[this]
theorem qx{n:Nat}{t:Table}(h:Yu n t)(hK:0<t.setup.kinds.length)(c:Nat):sortOf t c<t.setup.kinds.length:=Fi h.cs hK
def hm:List Nat:=[8,1,1,1,1,0,1,0,1,1,1,1,1,0,0,1,1,1]
def mn(p:Nat):Bool:=p==0||p==1||p==14
def CS(p:Nat)(a r:List Int):Option Yy:=VbdcaqNeutral.callOf (if mn p=true then [((p:Nat):Int)::a,r]else [((p:Nat):Int)::a])
structure Form(c:List (List Int))(p:Nat)(a r:List Int):Prop where
 p18:p<18
 len:a.length=hm.getD p 0
 row:c=if mn p=true then [((p:Nat):Int)::a,r]else [((p:Nat):Int)::a]
 nil:mn p=false->r=[]
theorem Mv{p:Int}{n k:Nat}(h:gc p=some (n,k)):∃q:Nat,p=(q:Int)/\q<18/\n=hm.getD q 0/\k=if mn q=true then 1 else 0:=by
 by_cases hb:0<=p/\p<18
 ·obtain⟨q,rfl⟩:∃q:Nat,p=(q:Int):=⟨p.toNat,by omega⟩;have hq:q<18:=by omega
  refine⟨q,rfl,hq,?_⟩;match q,hq,h with
  |0,_,h=>exact⟨(bz (ax h)).1.symm,(bz (ax h)).2.symm⟩
  |1,_,h=>exact⟨(bz (ax h)).1.symm,(bz (ax h)).2.symm⟩
  |2,_,h=>exact⟨(bz (ax h)).1.symm,(bz (ax h)).2.symm⟩
  |3,_,h=>exact⟨(bz (ax h)).1.symm,(bz (ax h)).2.symm⟩
  |4,_,h=>exact⟨(bz (ax h)).1.symm,(bz (ax h)).2.symm⟩
  |5,_,h=>exact⟨(bz (ax h)).1.symm,(bz (ax h)).2.symm⟩
  |6,_,h=>exact⟨(bz (ax h)).1.symm,(bz (ax h)).2.symm⟩
  |7,_,h=>exact⟨(bz (ax h)).1.symm,(bz (ax h)).2.symm⟩
  |8,_,h=>exact⟨(bz (ax h)).1.symm,(bz (ax h)).2.symm⟩
  |9,_,h=>exact⟨(bz (ax h)).1.symm,(bz (ax h)).2.symm⟩
  |10,_,h=>exact⟨(bz (ax h)).1.symm,(bz (ax h)).2.symm⟩
  |11,_,h=>exact⟨(bz (ax h)).1.symm,(bz (ax h)).2.symm⟩
  |12,_,h=>exact⟨(bz (ax h)).1.symm,(bz (ax h)).2.symm⟩
  |13,_,h=>exact⟨(bz (ax h)).1.symm,(bz (ax h)).2.symm⟩
  |14,_,h=>exact⟨(bz (ax h)).1.symm,(bz (ax h)).2.symm⟩
  |15,_,h=>exact⟨(bz (ax h)).1.symm,(bz (ax h)).2.symm⟩
  |16,_,h=>exact⟨(bz (ax h)).1.symm,(bz (ax h)).2.symm⟩
  |17,_,h=>exact⟨(bz (ax h)).1.symm,(bz (ax h)).2.symm⟩
 ·unfold gc at h;rw[if_neg (show ¬p=0 by omega)]at h;rw[if_neg (show ¬p=1 by omega)]at h;rw[if_neg (show ¬p=2 by omega)]at h;rw[if_neg (show ¬p=3 by omega)]at h;rw[if_neg (show ¬p=4 by omega)]at h;rw[if_neg (show ¬p=5 by omega)]at h;rw[if_neg (show ¬p=6 by omega)]at h;rw[if_neg (show ¬p=7 by omega)]at h;rw[if_neg (show ¬p=8 by omega)]at h;rw[if_neg (show ¬p=9 by omega)]at h;rw[if_neg (show ¬p=10 by omega)]at h;rw[if_neg (show ¬p=11 by omega)]at h;rw[if_neg (show ¬p=12 by omega)]at h;rw[if_neg (show ¬p=13 by omega)]at h;rw[if_neg (show ¬p=14 by omega)]at h;rw[if_neg (show ¬p=15 by omega)]at h;rw[if_neg (show ¬p=16 by omega)]at h;rw[if_neg (show ¬p=17 by omega)]at h;cases h
theorem Fj{c:List (List Int)}(h:j9 gc c):∃p a r,Form c p a r:=by
 obtain⟨p,a,xs,rfl,hs⟩:=h;obtain⟨q,rfl,hq,hn,hk⟩:=Mv hs;cases hr:mn q with
 |true=>
  rw[hr,if_pos rfl]at hk;match xs,hk with
  |[r],_=>exact⟨q,a,r,hq,hn,by rw[hr,if_pos rfl],fun z=>by rw[hr]at z;cases z⟩
 |false=>
  rw[hr,if_neg (by decide)]at hk;match xs,hk with
  |[],_=>exact⟨q,a,[],hq,hn,by rw[hr,if_neg (by decide)],fun _=>rfl⟩
theorem IV{c:List (List Int)}{p:Nat}{a r:List Int}(h:Form c p a r):gB c=if mn p=true then((p:Nat):Int)::(a++((r.length:Nat):Int)::r)else((p:Nat):Int)::a:=by
 rw[h.row];split
 ·show(((p:Nat):Int)::a)++(PyFlat.putRow r++[])=_;rw[cV];rfl
 ·show(((p:Nat):Int)::a)++[]=_;rw[cV]
theorem NK:∀(p:Nat) (a r:List Int),p<18->a.length=hm.getD p 0->(∃d,CS p a r=some d)/\Fw (if mn p=true then [((p:Nat):Int)::a,r]else [((p:Nat):Int)::a])=if mn p=true then [((p:Nat):Int)::a,r]else [((p:Nat):Int)::a]:=by
 intro p a r h1 h2;match p,h1 with
 |0,_=>match a,h2 with|[n,a,b,c,d,q,r',x],_=>exact⟨⟨_,rfl⟩,rfl⟩
 |1,_=>match a,h2 with|[i],_=>exact⟨⟨_,rfl⟩,rfl⟩
 |2,_=>match a,h2 with|[i],_=>exact⟨⟨_,rfl⟩,rfl⟩
 |3,_=>match a,h2 with|[i],_=>exact⟨⟨_,rfl⟩,rfl⟩
 |4,_=>match a,h2 with|[i],_=>exact⟨⟨_,rfl⟩,rfl⟩
 |5,_=>match a,h2 with|[],_=>exact⟨⟨_,rfl⟩,rfl⟩
 |6,_=>match a,h2 with|[i],_=>exact⟨⟨_,rfl⟩,rfl⟩
 |7,_=>match a,h2 with|[],_=>exact⟨⟨_,rfl⟩,rfl⟩
 |8,_=>match a,h2 with|[i],_=>exact⟨⟨_,rfl⟩,rfl⟩
 |9,_=>match a,h2 with|[i],_=>exact⟨⟨_,rfl⟩,rfl⟩
 |10,_=>match a,h2 with|[i],_=>exact⟨⟨_,rfl⟩,rfl⟩
 |11,_=>match a,h2 with|[i],_=>exact⟨⟨_,rfl⟩,rfl⟩
 |12,_=>match a,h2 with|[i],_=>exact⟨⟨_,rfl⟩,rfl⟩
 |13,_=>match a,h2 with|[],_=>exact⟨⟨_,rfl⟩,rfl⟩
 |14,_=>match a,h2 with|[],_=>exact⟨⟨_,rfl⟩,rfl⟩
 |15,_=>match a,h2 with|[i],_=>exact⟨⟨_,rfl⟩,rfl⟩
 |16,_=>match a,h2 with|[i],_=>exact⟨⟨_,rfl⟩,rfl⟩
 |17,_=>match a,h2 with|[i],_=>exact⟨⟨_,rfl⟩,rfl⟩
 |p+18,h1=>exact absurd h1 (by omega)
theorem VL{c:List (List Int)}(h:j9 gc c):Fw c=c:=by
 obtain⟨p,a,r,f⟩:=Fj h;rw[f.row];exact(NK p a r f.p18 f.len).2
theorem Ug{cs:List (List (List Int))}(h:∀c∈cs,j9 gc c):cs.map Fw=cs:=by
 induction cs with
 |nil=>rfl
 |cons c cs ih=>rw[bo,VL (h c ah),ih fun d hd=>h d (aA _ hd)]
theorem Oj{l:List Int}(h:uJ l=true):∃cs,l=fu cs/\(∀c∈cs,j9 gc c)/\cs.length<=300/\BY l=hE (fE bu nZ cs):=by
 unfold uJ at h;unfold BY;unfold PyVbdcaq.calls at h⊢;cases e:PyFlat.calls gc l.length l with
 |none=>rw[e]at h;cases h
 |some cs=>
  rw[e]at h;obtain⟨h1,h2⟩:=PyFlat.put_calls _ _ _ e;have h3:=Ug h2;dsimp only at h⊢;rw[h3]at h⊢;rw[aE]at h;exact⟨cs,h1,h2,of_decide_eq_true h.1,rfl⟩
theorem Cj{s:dQ}{c:List (List Int)}{p:Nat}{a r:List Int}(h:Form c p a r):∃d,CS p a r=some d/\bu s c=aU s d:=by
 obtain⟨d,hd⟩:=(NK p a r h.p18 h.len).1;refine⟨d,hd,?_⟩;unfold CS at hd;rw[<-h.row]at hd;unfold bu;rw[hd]
theorem Th(l:List (List Int))(a:List Int):hE (l++[a])=hE l++((a.length:Nat):Int)::a:=by
 unfold hE;rw[gC];simp
theorem ue{t:Table}(h:Str t){i:Nat}(hi:i<t.setup.seats):(queue t i).length+((queue t i).map fun p=>p.cards.length).sum<=2*t.cards.length:=by
 have a:=BP h;unfold allOf at a;rw[ai,jZ (fun q:List bA=>q.flatMap fun p=>p.cards)]at a;have b:=tO (fun q:List bA=>(q.flatMap fun p=>p.cards).length) [] t.queues i (by rw[h.ql];exact hi);have c:((t.queues.getD i []).flatMap fun p=>p.cards).length=((queue t i).map fun p=>p.cards.length).sum:=jZ _ _;have d:∀q:List bA,(∀p∈q,p.cards≠ [])->q.length<=(q.map fun p=>p.cards.length).sum:=by
  intro q;induction q with
  |nil=>intro _;exact bK _
  |cons p q ih=>
   intro hq;have h1:=ih fun x hx=>hq x (aA _ hx)
   have h2:1<=p.cards.length:=iF.mpr (hq p ah);simp only[az,bo,eK];omega
 have e:=d (queue t i) fun p hp=>(h.pk i p hp).1
 have b':((t.queues.getD i []).flatMap fun p=>p.cards).length<=(t.queues.map fun a=>(a.flatMap fun p=>p.cards).length).sum:=b;omega
theorem yp(t:Table)(l:List Nat):(tally t l).length<=t.setup.kinds.length:=by
 unfold tally;refine bN (List.length_filterMap_le _ _) ?_;rw[ba];exact ao _
theorem pairs_len(l:List (Nat×Nat)):(pairs l).length=2*l.length:=by
 unfold pairs;induction l with
 |nil=>rfl
 |cons x l ih=>rw[dE,ai,ih];simp;omega
theorem ve{n:Nat}(h:n<100):(dec n).length<=2:=by
 have:∀n,n<100->(dec n).length<=2:=by decide+kernel
 exact this n h
theorem zT:∀(ms:List (Nat×List Nat)),(∀m∈ms,m.1<8/\1<=m.2.length/\m.2.length<=3/\∀k∈m.2,k<20)->(record ms).length<=12*ms.length
 |[],_=>ao _
 |m::ms,h=>by
  have ih:=zT ms fun x hx=>h x (aA _ hx)
  have h1:=h m ah;have e:record (m::ms)=shownMove m++record ms:=dE;rw[e,ai,az];unfold shownMove;rw[ai,ai];have a:=ve (n:=m.1) (by omega);have b:∀l:List Nat,(∀k∈l,k<20)->(l.flatMap fun k=>32::dec k).length<=3*l.length:=by
   intro l;induction l with
   |nil=>intro _;exact ao _
   |cons k l ih2=>
    intro hl;have:=ih2 fun x hx=>hl x (aA _ hx)
    have:=ve (n:=k) (by have:=hl k ah;omega);rw[dE,ai,az,az];omega
  have:=b m.2 h1.2.2.2;simp only[QZ];omega
theorem FV{α:Type}{f:α->Nat}(B:Nat):∀(l:List α),(∀a,f a<=B)->(l.map f).sum<=B*l.length
 |[],_=>ao _
 |a::l,h=>by
  have h1:=FV B l h;have h2:=h a;rw[bo,eK,az,Nat.mul_succ];omega
theorem TH{s:iy}(h:gT s)(k:Nat):(printed s k).length<=1280:=by
 unfold printed;rw[jZ];have:=FV 20 (aG s.kinds.length) (f:=fun a=>(match s.kinds[a]? with|some c=>if c.cls=k then aO c.copies a else []|none=>([]:List Nat)).length) ?_
 ·rw[ba]at this;have:=h.kinds.2;exact bN (by assumption) (by omega)
 ·intro i;split
  ·rename_i c hc;split
   ·rw[dS];exact(h.kb c (bC hc)).2.2.2
   ·exact bK _
  ·exact bK _
theorem jC{s:dQ}{l:List (Int×Bool)}{k:Unit->dQ×List Int}{B:Nat}(hB:1<=B)(h:(l.all fun x=>!x.2)=true->(k ()).2.length<=B):(guarded s l k).2.length<=B:=
 dq (P:=fun z=>z.2.length<=B) (fun _=>hB) h
theorem ou(t:Table)(l:List Nat):(sorts t l).length=l.length:=by simp[sorts,Vbdcaq.ints]
theorem MA{s:dQ}(h:jm s){i:Int}(g:(0<=i/\i<=7)/\¬(s.table.setup.seats:Int)<=i):fw s.table/\i.toNat<s.table.setup.seats:=by
 have hi:=yr h g.2 g.1.1;exact⟨(h.IE (by omega)).1,hi⟩
theorem Au{s:dQ}(h:jm s)(c:Yy):(step s c).2.length<=20000:=by
 have dn:∀ {i:Int} {k:Unit->dQ×List Int},(fw s.table->i.toNat<s.table.setup.seats->(k ()).2.length<=20000)->(guarded s [(-1,!inr i 0 7),noSeat s i] k).2.length<=20000:=by
  intro i k hk;refine jC (by decide) fun g=>?_
  simp only[noSeat,dM,jk,eM,j5,aE,aT,gj,decide_eq_false_iff_not]at g;obtain⟨a,b⟩:=MA h g;exact hk a b
 have afR:∀(i:Nat) (places:List Nat),i<s.table.setup.seats->(did s i places).2.length<=20000:=by
  intro i places hi;obtain⟨ht,_⟩:=h.IE (by omega);unfold did;cases e:picked s.table i places with
  |error z=>show 1<=20000;decide
  |ok t=>
   have q:=Gv ht hi e;show(0::sorts t _).length<=20000;rw[az,ou,jI];have:=uZ q.1.str (i:=i) (by rw[q.2];exact hi);have:=gY q.1;omega
 cases c with
 |begin_ n a b c d q r x l=>exact jC (by decide) fun _=>by show 2<=20000;decide
 |pick i l=>
  refine jC (by decide) fun g=>?_
  simp only[noSeat,dM,jk,eM,j5,aE,aT,gj,decide_eq_false_iff_not]at g;exact afR _ _ (yr h g.2 g.1.1.1)
 |late i=>exact dn fun _ hi=>afR _ _ hi
 |see i=>
  refine jC (by decide) fun g=>?_
  simp only[noSeat,dM,jk,eM,j5,aE,aT,gj,decide_eq_false_iff_not]at g;obtain⟨ht,hi⟩:=MA h ⟨g.1,g.2.1⟩;dsimp only;cases e:queue s.table i.toNat with
  |nil=>show 1<=20000;decide
  |cons p r=>
   have hp:p∈queue s.table i.toNat:=by rw[e];exact ah
   have:=u5 ht hi hp;have:size s.table<=20:=ht.su.Ku.2;show([0,(p.origin:Int),(p.visits:Int)]++sorts s.table p.cards).length<=20000;rw[ai,ou];simp only[az,kn];omega
 |pool i=>
  refine dn fun ht hi=>?_
  show(0::sorts s.table _).length<=20000;rw[az,ou];have:=uZ ht.str hi;have:=gY ht;omega
 |waits=>
  show(0::s.table.queues.map _).length<=20000;rw[az,ae];rcases h.tab with ⟨q,_⟩|⟨q,_⟩
  ·rw[q];decide
  ·have:=q.str.ql;have:=q.su.seats;omega
 |sizes i=>
  refine dn fun ht hi=>?_
  show(0::(queue s.table i.toNat).map _).length<=20000;rw[az,ae];have:=ue ht.str hi;have:=gY ht;omega
 |stands=>show 6<=20000;decide
 |seen i=>
  refine dn fun ht hi=>?_
  show(0::pairs _).length<=20000;rw[az,pairs_len];have:=yp s.table ((seenCards s.table i.toNat).map fun x=>x.2);have:=ht.su.kinds.2;omega
 |gone i=>
  refine dn fun ht hi=>?_
  show(0::pairs _).length<=20000;rw[az,pairs_len];have:=yp s.table (gone s.table i.toNat);have:=ht.su.kinds.2;omega
 |away i=>
  refine dn fun ht hi=>?_
  show(0::pairs _).length<=20000;rw[az,pairs_len];have:=yp s.table (away s.table i.toNat);have:=ht.su.kinds.2;omega
 |colours i=>
  refine dn fun ht hi=>?_
  show(0::(aG 4).map _).length<=20000;rw[az,ae,ba];decide
 |holders k=>
  refine jC (by decide) fun g=>?_
  show(0::s.table.pools.map _).length<=20000;rw[az,ae];rcases h.tab with ⟨q,_⟩|⟨q,_⟩
  ·rw[q];decide
  ·have:=q.str.pl;have:=q.su.seats;omega
 |record=>
  show(0::Vbdcaq.ints _).length<=20000;rw[az];have e:(Vbdcaq.ints (record s.moves)).length=(record s.moves).length:=by simp[Vbdcaq.ints]
  rw[e];obtain⟨h1,h2⟩:=h.xi;have:=zT s.moves h2;omega
 |replay l=>
  refine jC (by decide) fun g=>?_
  cases e:readMoves 1 (split 10 (l.map cz))with
  |error n=>show 3<=20000;decide
  |ok ms=>
   dsimp only;cases e2:through 1 (begun s.table.setup) ms with
   |error n=>show 3<=20000;decide
   |ok t=>show 2<=20000;decide
 |back n=>
  refine jC (by decide) fun g=>?_
  dsimp only;cases e2:through 1 (begun s.table.setup) (s.moves.take (s.moves.length-n.toNat))with
  |error n=>show 1<=20000;decide
  |ok t=>show 2<=20000;decide
 |truth i=>
  refine dn fun ht hi=>?_
  show(0::(queue s.table i.toNat).flatMap _).length<=20000;rw[az];have e:∀q:List bA,(q.flatMap fun p=>[(p.origin:Int),(p.visits:Int),(p.cards.length:Int)]++sorts s.table p.cards).length=3*q.length+(q.map fun p=>p.cards.length).sum:=by
   intro q;induction q with
   |nil=>rfl
   |cons p q ih=>
    rw[dE,ai,ih,ai,ou];simp only[az,kn,bo,eK];omega
  rw[e];have:=ue ht.str hi;have:=gY ht;omega
 |sheet k=>
  refine jC (by decide) fun g=>?_
  simp only[dM,jk,eM,j5,gj]at g;show(0::Vbdcaq.ints _).length<=20000;rw[az];have e:(Vbdcaq.ints (s.table.sheets.getD k.toNat [])).length=(s.table.sheets.getD k.toNat []).length:=by simp[Vbdcaq.ints]
  rw[e];rcases h.tab with ⟨q,_⟩|⟨q,_⟩
  ·rw[q];have:∀j,(([[],[],[],[]]:List (List Nat)).getD j []).length<=0:=by
    intro j;match j with
    |0=>decide
    |1=>decide
    |2=>decide
    |3=>decide
    |j+4=>exact ao _
   have:=this k.toNat;show(([[],[],[],[]]:List (List Nat)).getD k.toNat []).length+1<=20000;omega
  ·rw[q.sh,qV _ (by omega)];have:=TH q.su k.toNat;omega
def yO(l:List Int)(j n:Nat):List Int:=(aG n).map fun i=>l.getD (3*i+j) 0
theorem FP(a b c:Int)(r:List Int)(j n:Nat):yO (a::b::c::r) j (n+1)=(a::b::c::r).getD j 0::yO r j n:=by
 unfold yO;rw[we,bo,cO,Nat.mul_zero,oN]
 congr 1
 apply bU
 intro i _;show(a::b::c::r).getD (3*(i+1)+j) 0=r.getD (3*i+j) 0;rw[show 3*(i+1)+j=(3*i+j)+3 by omega];rfl
theorem sA:∀(n:Nat) (l:List Int),l.length=3*n->kindsIn l=((yO l 0 n).all (fun x=>inr x 0 3)&&((yO l 1 n).all (fun x=>inr x 0 15)&&(yO l 2 n).all fun x=>inr x 1 20))
 |0,[],_=>rfl
 |0,_::_,h=>by simp at h
 |n+1,l,h=>by
  match l,h with
  |a::b::c::r,h=>
   have hr:r.length=3*n:=by simp at h;omega
   rw[FP,FP,FP];show((inr a 0 3&&(inr b 0 15&&inr c 1 20))&&kindsIn r)=_;rw[sA n r hr];simp only[dM,List.getD_cons_zero,AF];cases inr a 0 3<;>cases inr b 0 15<;>cases inr c 1 20<;>cases (yO r 0 n).all (fun x=>inr x 0 3)<;>cases (yO r 1 n).all (fun x=>inr x 0 15)<;>rfl
  |[],h=>simp at h
  |[_],h=>simp at h;omega
  |[_,_],h=>simp at h;omega
theorem Nn:∀ {l:List Int},kindsIn l=true->l.length %3=0:=fun h=>by rw[pq h];omega
theorem sy:∀(l:List Int) (n i:Nat),l.length=3*n->i<n->(kindsOf l)[i]? =some ⟨(l.getD (3*i) 0).toNat,(l.getD (3*i+1) 0).toNat,(l.getD (3*i+2) 0).toNat⟩
 |l,0,i,_,hi=>by omega
 |l,n+1,i,h,hi=>by
  match l,h with
  |a::b::c::r,h=>
   have hr:r.length=3*n:=by simp at h;omega
   cases i with
   |zero=>rfl
   |succ i=>
    have:=sy r n i hr (by omega);show(kindsOf r)[i]? =_;rw[this,show 3*(i+1)=3*i+3 by omega,show 3*i+3+1=(3*i+1)+3 by omega,show 3*i+3+2=(3*i+2)+3 by omega];rfl
  |[],h=>simp at h
  |[_],h=>simp at h;omega
  |[_,_],h=>simp at h;omega
theorem xr:∀(n:Nat) (l:List Int),l.length=3*n->(kindsOf l).length=n
 |0,[],_=>rfl
 |0,_::_,h=>by simp at h
 |n+1,l,h=>by
  match l,h with
  |a::b::c::r,h=>
   have hr:r.length=3*n:=by simp at h;omega
   show(kindsOf r).length+1=n+1;rw[xr n r hr]
  |[],h=>simp at h
  |[_],h=>simp at h;omega
  |[_,_],h=>simp at h;omega
theorem HX{s:iy}{k:Nat}(h:∀c∈s.kinds,1<=c.copies):(printed s k).isEmpty=!(s.kinds.any fun c=>c.cls==k):=by
 cases e:s.kinds.any fun c=>c.cls==k with
 |true=>
  obtain⟨c,hc,hk⟩:=dg.mp e;obtain⟨i,hi⟩:=lx hc;have Ux:=(aw.mp hi).1;have m:i∈printed s k:=by
   unfold printed;rw[jF];refine⟨i,bG.mpr Ux,?_⟩;rw[hi];dsimp only;rw[if_pos (eq_of_beq hk),VA];have:=h c hc;exact⟨by omega,rfl⟩
  cases q:printed s k with
  |nil=>rw[q]at m;cases m
  |cons=>rfl
 |false=>
  have Xu:∀c∈s.kinds,¬c.cls=k:=by
   intro c hc q;have:=uG.mp e c hc;exact this (by rw[q];exact beq_self_eq_true k)
  cases q:printed s k with
  |nil=>rfl
  |cons x r=>
   have m:x∈printed s k:=by rw[q];exact ah
   unfold printed at m;rw[jF]at m;obtain⟨i,hi,hx⟩:=m;have Ux:=bG.mp hi;rw[aB Ux]at hx;dsimp only at hx;rw[if_neg (Xu _ (df Ux))]at hx;cases hx
theorem Jn{l:List Int}{n:Nat}(hl:l.length=3*n)(xu:∀x∈yO l 0 n,0<=x)(k:Nat):((kindsOf l).any fun c=>c.cls==k)=(yO l 0 n).contains (k:Int):=by
 rw[aY];by_cases h:((k:Nat):Int)∈yO l 0 n
 ·rw[decide_eq_true h];unfold yO at h;obtain⟨i,hi,e⟩:=bh.mp h;have hi:=bG.mp hi;have g:=sy l n i hl hi;rw[dg];refine⟨_,bC g,?_⟩;rw[beq_iff_eq];show(l.getD (3*i) 0).toNat=k;rw[rP]at e;omega
 ·rw[decide_eq_false h,uG];intro c hc q;obtain⟨i,hi⟩:=lx hc;have Ux:=(aw.mp hi).1;rw[xr n l hl]at Ux;rw[sy l n i hl Ux]at hi;have e:=ax hi;subst e;have q:(l.getD (3*i) 0).toNat=k:=eq_of_beq q;apply h;unfold yO;refine bh.mpr ⟨i,bG.mpr Ux,?_⟩;have m:l.getD (3*i+0) 0∈yO l 0 n:=bh.mpr ⟨i,bG.mpr Ux,rfl⟩;have:=xu _ m;rw[rP]at this⊢;omega
def Np(t:Table)(p:bA):Nat:=t.round*t.setup.seats+p.origin
structure Y1(fl:List bA)(t:Table):Prop where
 a:∀i,(lookedAt t i).Pairwise fun x y=>x.1=y.1->∀c∈y.2,c∈x.2
 nd:∀i,∀x∈lookedAt t i,x.2.Nodup
 b:∀i j p,p∈queue t j\/p∈fl->∀x∈lookedAt t i,x.1=Np t p->∀c∈p.cards,c∈x.2
def vk(t:Table)(i:Nat):Prop:=∀p r,queue t i=p::r->lastLook t i (Np t p)=p.cards
structure qv(t:Table):Prop where
 i:Y1 [] t
 f:∀i,vk t i
theorem M1{o:Nat}{p q:bA}:∀ {l:List bA},p∈l->q∈l->p.origin=o->q.origin=o->pf o l<=1->p=q
 |[],h,_,_,_,_=>by cases h
 |a::l,hp,hq,ep,eq,h=>by
  rw[oE]at h;rcases aM.mp hp with e1|h1<;>rcases aM.mp hq with e2|h2
  ·rw[e1,e2]
  ·have:=pd h2;rw[eq]at this;rw[if_pos (by rw[<-e1];exact ep)]at h;omega
  ·have:=pd h1;rw[ep]at this;rw[if_pos (by rw[<-e2];exact eq)]at h;omega
  ·exact M1 h1 h2 ep eq (by omega)
theorem PV{α:Type}{l:List (List α)}{i:Nat}{a:α}(h:a∈l.getD i []):i<l.length:=by
 by_cases e:i<l.length
 ·exact e
 ·rw[Bo (by omega)]at h;cases h
theorem PM{qs:List (List bA)}{o i j:Nat}{p q:bA}(h:w6 o qs<=1)(hp:p∈qs.getD i [])(hq:q∈qs.getD j [])(ep:p.origin=o)(eq:q.origin=o):p=q:=by
 have hi:=PV hp;have hj:=PV hq;have a1:=tO (pf o) [] qs i hi;by_cases e:i=j
 ·subst e;exact M1 hp hq ep eq (bN a1 h)
 ·exfalso
  have a2:=wZ o [] hi;have a3:=tO (pf o) [] (qs.set i []) j (by rw[dD];exact hj);rw[cw e]at a3;have a4:=pd hp;have a5:=pd hq;rw[ep]at a4;rw[eq]at a5;rw[wY]at a2;have:((qs.set i []).map (pf o)).sum=w6 o (qs.set i []):=rfl;omega
theorem M0{qs:List (List bA)}{j:Nat}{q:bA}(h:w6 q.origin qs=0)(hq:q∈qs.getD j []):False:=by
 have a3:=tO (pf q.origin) [] qs j (PV hq);have a5:=pd hq;have:(qs.map (pf q.origin)).sum=w6 q.origin qs:=rfl;omega
theorem Ja{α:Type}{R:α->α->Prop}{l:List α}{y:α}(h:l.Pairwise R)(k:∀x∈l,R x y):(l++[y]).Pairwise R:=by
 rw[ji];refine⟨h,OH _ _,fun x hx z hz=>?_⟩;rw[aN.mp hz];exact k x hx
theorem Xg{t:Table}{p q:bA}(h:Np t p=Np t q):p.origin=q.origin:=by unfold Np at h;omega
theorem Nh{fl:List bA}{t:Table}(h:Y1 fl t){i:Nat}(hl:i<t.looks.length)(hu:∀j k p q,p∈queue t j->(q∈queue t k\/q∈fl)->p.origin=q.origin->p=q)(hn:∀p∈queue t i,p.cards.Nodup):
  Y1 fl (looks t i)/\vk (looks t i) i/\∀j,j≠i->vk t j->vk (looks t i) j:=by
 cases e:queue t i with
 |nil=>
  rw[CT e];refine⟨h,fun p r q=>?_,fun j _ k=>k⟩;rw[e]at q;cases q
 |cons p r=>
  have hp:p∈queue t i:=by rw[e];exact ah
  rw[Ag e];have l1:lookedAt {t with looks:=t.looks.set i (lookedAt t i++[(t.round*t.setup.seats+p.origin,p.cards)])} i=lookedAt t i++[(Np t p,p.cards)]:=cy hl;have l2:∀j,j≠i->lookedAt {t with looks:=t.looks.set i (lookedAt t i++[(t.round*t.setup.seats+p.origin,p.cards)])} j=lookedAt t j:=fun j hj=>cw (fun q=>hj q.symm)
  refine⟨⟨fun j=>?_,fun j=>?_,fun j k q hq=>?_⟩,fun p' r' q=>?_,fun j hj f p' r' q=>?_⟩
  ·by_cases ej:j=i
   ·subst ej;rw[l1];exact Ja (h.a j) fun x hx ex=>h.b j j p (.inl hp) x hx ex
   ·rw[l2 j ej];exact h.a j
  ·by_cases ej:j=i
   ·subst ej;rw[l1];intro x hx;rcases aH.mp hx with hx|hx
    ·exact h.nd j x hx
    ·rw[aN.mp hx];exact hn p hp
   ·rw[l2 j ej];exact h.nd j
  ·by_cases ej:j=i
   ·subst ej;rw[l1];intro x hx ex;rcases aH.mp hx with hx|hx
    ·exact h.b j k q hq x hx ex
    ·rw[aN.mp hx]at ex⊢;rw[<-hu j k p q hp hq (Xg (t:=t) ex)];exact fun c hc=>hc
   ·rw[l2 j ej];exact h.b j k q hq
  ·have q':queue t i=p'::r':=q;rw[e]at q';cases q';unfold lastLook;rw[l1,tP];exact if_pos rfl
  ·unfold lastLook;rw[l2 j hj];exact f p' r' q
theorem Mj{fl fo:List Nat}{t:Table}(h:EN fl fo t){ps:List bA}(hf:∀q∈ps,q.origin∈fo):∀j k p q,p∈queue t j->(q∈queue t k\/q∈ps)->p.origin=q.origin->p=q:=by
 intro j k p q hp hq e;have o:=h.OM p.origin;rcases hq with hq|hq
 ·exact PM (by omega) hp hq rfl e.symm
 ·exfalso
  have:=cU.mpr (hf q hq);rw[<-e]at this;exact M0 (by omega) hp
theorem Y1.sub{fl fl':List bA}{t u:Table}(h:Y1 fl t)(hl:∀i,lookedAt u i=lookedAt t i)(hk:u.round=t.round/\u.setup.seats=t.setup.seats)
  (hq:∀j p,p∈queue u j\/p∈fl'->∃k q,(q∈queue t k\/q∈fl)/\q.origin=p.origin/\∀c∈p.cards,c∈q.cards):Y1 fl' u:=by
 refine⟨fun i=>by rw[hl];exact h.a i,fun i=>by rw[hl];exact h.nd i,fun i j p hp x hx ex c hc=>?_⟩;rw[hl]at hx;obtain⟨k,q,h1,h2,h3⟩:=hq j p hp;refine h.b i k q h1 x hx ?_ c (h3 c hc);rw[ex];unfold Np;rw[hk.1,hk.2,h2]
theorem WO{t:Table}(l:qv t)(h:Str t){i:Nat}(hi:i<t.setup.seats){p:bA}{r:List bA}(hq:queue t i=p::r){places:List Nat}(ok:iQ t p places):
  Y1 [⟨p.origin,p.visits+1,left p.cards places⟩] (nU t i p r places)/\∀j,vk (nU t i p r places) j:=by
 have S:=wX h hi hq ok;have fr:=pb t i p r places;have Jq:i<t.queues.length:=by rw[h.ql];exact hi
 have hp:p∈queue t i:=by rw[hq];exact ah
 unfold nU at S fr⊢;have qe:∀j,queue (looks {t with queues:=t.queues.set i r,pools:=t.pools.set i (pool t i++got p.cards places)} i) j=queue {t with queues:=t.queues.set i r,pools:=t.pools.set i (pool t i++got p.cards places)} j:=fun j=>by
  show(looks _ i).queues.getD j []=_;rw[Bl];rfl
 have base:Y1 [⟨p.origin,p.visits+1,left p.cards places⟩] {t with queues:=t.queues.set i r,pools:=t.pools.set i (pool t i++got p.cards places)}:=by
  refine l.i.sub (fun _=>rfl) ⟨rfl,rfl⟩ fun j q hj=>?_
  rcases hj with hj|hj
  ·have C0:q∈(t.queues.set i r).getD j []:=hj;by_cases e:i=j
   ·subst e;rw[cy Jq]at C0;exact⟨i,q,.inl (by rw[hq];exact aA _ C0),rfl,fun c hc=>hc⟩
   ·rw[cw e]at C0;exact⟨j,q,.inl C0,rfl,fun c hc=>hc⟩
  ·rw[aN.mp hj];exact⟨i,p,.inl hp,rfl,fun c hc=>Nk c hc⟩
 have:=Nh base (i:=i) (by show i<t.looks.length;rw[h.ll];exact hi) (fun j k p q hp hq=>by
   rw[<-qe]at hp hq;exact Mj S (fun q hq=>by rw[aN.mp hq];exact ah) j k p q hp hq) (fun q lU=>by
   rw[<-qe]at lU;exact oC S (by rw[fr.setup];exact hi) lU)
 refine⟨this.1,fun j=>?_⟩;by_cases e:j=i
 ·rw[e];exact this.2.1
 ·refine this.2.2 j e fun p' r' q=>?_
  refine l.f j p' r' ?_;have q':(t.queues.set i r).getD j []=p'::r':=q;rw[cw (fun q=>e q.symm)]at q';exact q'
theorem TV{t a:Table}{i:Nat}{p:bA}{places:List Nat}(la:Y1 [⟨p.origin,p.visits+1,left p.cards places⟩] a)(fa:∀j,vk a j)(ha:EN (left p.cards places) [p.origin] a)(fr:Frame t a)(hs:0<t.setup.seats)
  (hp:p.origin<t.setup.seats/\∀c∈p.cards,(c-1)/size t=t.round*t.setup.seats+p.origin):qv (passOn t a i p places):=by
 have S:=ug (i:=i) ha fr hs hp;have hj:neighbour t i<a.queues.length:=by rw[ha.ql,fr.setup];exact qo hs
 have hjs:neighbour t i<a.setup.seats:=by rw[fr.setup];exact qo hs
 have base:Y1 [] {a with queues:=a.queues.set (neighbour t i) (queue a (neighbour t i)++[⟨p.origin,p.visits+1,left p.cards places⟩])}:=by
  refine la.sub (fun _=>rfl) ⟨rfl,rfl⟩ fun j q hq=>?_
  rcases hq with hq|hq
  ·have lU:q∈(a.queues.set (neighbour t i) (queue a (neighbour t i)++[⟨p.origin,p.visits+1,left p.cards places⟩])).getD j []:=hq;by_cases e:neighbour t i=j
   ·subst e;rw[cy hj,aH]at lU;exact⟨neighbour t i,q,lU,rfl,fun c hc=>hc⟩
   ·rw[cw e]at lU;exact⟨j,q,.inl lU,rfl,fun c hc=>hc⟩
  ·cases hq
 have oth:∀j,j≠neighbour t i->vk {a with queues:=a.queues.set (neighbour t i) (queue a (neighbour t i)++[⟨p.origin,p.visits+1,left p.cards places⟩])} j:=fun j e p' r' q=>by
  have q':(a.queues.set (neighbour t i) (queue a (neighbour t i)++[⟨p.origin,p.visits+1,left p.cards places⟩])).getD j []=p'::r':=q;rw[cw (fun q=>e q.symm)]at q';exact fa j p' r' q'
 unfold passOn at S⊢;by_cases h1:(left p.cards places).isEmpty=true
 ·rw[if_pos h1];refine⟨la.sub (fun _=>rfl) ⟨rfl,rfl⟩ fun j q hq=>?_,fa⟩;rcases hq with hq|hq
  ·exact⟨j,q,.inl hq,rfl,fun c hc=>hc⟩
  ·cases hq
 ·rw[if_neg h1]at S⊢;by_cases h2:(queue a (neighbour t i)).isEmpty=true
  ·rw[if_pos h2]at S⊢;have qe:∀j,queue (looks {a with queues:=a.queues.set (neighbour t i) (queue a (neighbour t i)++[⟨p.origin,p.visits+1,left p.cards places⟩])} (neighbour t i)) j=queue {a with queues:=a.queues.set (neighbour t i) (queue a (neighbour t i)++[⟨p.origin,p.visits+1,left p.cards places⟩])} j:=fun j=>by
    show(looks _ (neighbour t i)).queues.getD j []=_;rw[Bl];rfl
   have:=Nh base (i:=neighbour t i) (by show neighbour t i<a.looks.length;rw[ha.ll];exact hjs) (fun j k p q hp hq=>by
     rw[<-qe]at hp hq;exact Mj S.toF (fun q hq=>by cases hq) j k p q hp hq) (fun q lU=>by
     rw[<-qe]at lU;exact oC S.toF (by rw[DN];exact hjs) lU)
   refine⟨this.1,fun j=>?_⟩;by_cases e:j=neighbour t i
   ·rw[e];exact this.2.1
   ·exact this.2.2 j e (oth j e)
  ·rw[if_neg h2];refine⟨base,fun j=>?_⟩;by_cases e:j=neighbour t i
   ·rw[e];intro p' r' q;have q':(a.queues.set (neighbour t i) (queue a (neighbour t i)++[⟨p.origin,p.visits+1,left p.cards places⟩])).getD (neighbour t i) []=p'::r':=q;rw[cy hj]at q';cases e2:queue a (neighbour t i)with
    |nil=>rw[e2]at h2;exact absurd rfl h2
    |cons p2 r2=>
     rw[e2]at q';cases q';exact fa _ _ _ e2
   ·exact oth j e
theorem TZ{t:Table}{i:Nat}(h:lg i t)(hi:i<t.setup.seats)(l:qv t):qv (openAt t i):=by
 have Jq:i<t.queues.length:=by rw[h.str.ql];exact hi
 have hll:i<t.looks.length:=by rw[h.str.ll];exact hi
 have hsz:=size_pos h.su;have N:=DG h hi;have hk:∀j,∀x∈lookedAt t j,x.1<t.round*t.setup.seats+i:=by
  intro j x hx;obtain⟨h1,h2⟩:=h.str.lk j x hx;obtain⟨c,hc⟩:=LN _ h1;obtain⟨e,h3,h4⟩:=h2 c hc;rw[h.cnt.cl]at h4;rw[<-e];exact Nat.div_lt_of_lt_mul (by rw[lP];omega)
 have ho:∀j,∀q∈queue t j,q.origin<i:=by
  intro j q hq;by_cases e:q.origin<i
  ·exact e
  ·exact(M0 (h.OM q.origin (by omega)) hq).elim
 have l1:lookedAt (openAt t i) i=lookedAt t i++[(t.round*t.setup.seats+i,cN t)]:=cy hll;have l2:∀j,j≠i->lookedAt (openAt t i) j=lookedAt t j:=fun j hj=>cw (fun q=>hj q.symm)
 have q1:queue (openAt t i) i=[⟨i,0,cN t⟩]:=cy Jq;have q2:∀j,j≠i->queue (openAt t i) j=queue t j:=fun j hj=>cw (fun q=>hj q.symm)
 have hn:(cN t).Nodup:=oC N.str.toF (i:=i) hi (p:=⟨i,0,cN t⟩) (by rw[q1];exact ah);refine⟨⟨fun j=>?_,fun j=>?_,fun j k q hq x hx ex=>?_⟩,fun j p r q=>?_⟩
 ·by_cases e:j=i
  ·subst e;rw[l1];refine Ja (l.i.a j) fun x hx ex=>?_
   have:=hk j x hx;rw[ex]at this;exact absurd this (et _)
  ·rw[l2 j e];exact l.i.a j
 ·by_cases e:j=i
  ·subst e;rw[l1];intro x hx;rcases aH.mp hx with hx|hx
   ·exact l.i.nd j x hx
   ·rw[aN.mp hx];exact hn
  ·rw[l2 j e];exact l.i.nd j
 ·have hz:q∈queue (openAt t i) k:=by rcases hq with h|h;exact h;cases h
  clear hq;have ex:x.1=t.round*t.setup.seats+q.origin:=ex;by_cases ek:k=i
  ·subst ek;rw[q1]at hz;cases aN.mp hz;by_cases e:j=k
   ·subst e;rw[l1]at hx;rcases aH.mp hx with hx|hx
    ·have:=hk j x hx;rw[ex]at this;exact absurd this (et _)
    ·rw[aN.mp hx];exact fun c hc=>hc
   ·rw[l2 j e]at hx;have:=hk j x hx;rw[ex]at this;exact absurd this (et _)
  ·rw[q2 k ek]at hz;have o:=ho k q hz;by_cases e:j=i
   ·subst e;rw[l1]at hx;rcases aH.mp hx with hx|hx
    ·exact l.i.b j k q (.inl hz) x hx ex
    ·rw[aN.mp hx]at ex;have:t.round*t.setup.seats+j=t.round*t.setup.seats+q.origin:=ex;omega
   ·rw[l2 j e]at hx;exact l.i.b j k q (.inl hz) x hx ex
 ·unfold lastLook;by_cases e:j=i
  ·subst e;rw[q1]at q;cases q;rw[l1,tP];exact if_pos rfl
  ·rw[q2 j e]at q;rw[l2 j e];exact l.f j p r q
theorem GB{t:Table}(h:lg 0 t)(l:qv t):∀n,n<=t.setup.seats->qv ((aG n).foldl openAt t)
 |0,_=>l
 |n+1,hn=>by
  obtain⟨a,b,_,_⟩:=RG h n (by omega);rw[gJ];exact TZ a (by rw[b];omega) (GB h l n (by omega))
theorem Sm{t:Table}(h:∀i,queue t i=[])(a:∀i,(lookedAt t i).Pairwise fun x y=>x.1=y.1->∀c∈y.2,c∈x.2)(nd:∀i,∀x∈lookedAt t i,x.2.Nodup):qv t:=
 ⟨⟨a,nd,fun i j p hp=>by rcases hp with hp|hp;rw[h]at hp;cases hp;cases hp⟩,fun i p r q=>by rw[h]at q;cases q⟩
theorem Ba{b:Table}(su:gT b.setup)(sh:b.sheets=mixed b.setup)(Ab:b.off.length=4)(rd:b.round+1<b.setup.rounds)(cnt:Yu ((b.round+1)*b.setup.seats) b)(str:Str b)(LS:∀i,queue b i=[]):lg 0 {b with round:=b.round+1}:=by
 refine⟨su,sh,Ab,rd,⟨cnt.cl,cnt.off,cnt.cs⟩,⟨str.ql,str.pl,str.ll,str.one,str.OM,?_,str.lk⟩,fun j _=>LS j,?_⟩
 ·intro i p hp;have vU:p∈queue b i:=hp;rw[LS]at vU;cases vU
 ·intro o _;refine kC _ _ fun a ha=>?_
  obtain⟨i,hi,rfl⟩:=lZ ha;have:b.queues.getD i []=[]:=LS i;rw[getD_in hi]at this;rw[this];rfl
theorem all_empty{b:Table}(e:(b.queues.all fun q=>q.isEmpty)=true)(i:Nat):queue b i=[]:=by
 rw[bD]at e;show b.queues.getD i []=[];by_cases h:i<b.queues.length
 ·rw[getD_in h];exact fZ.mp (e _ (df h))
 ·exact Bo (by omega)
theorem NW{b:Table}(l:qv b)(su:gT b.setup)(sh:b.sheets=mixed b.setup)(Ab:b.off.length=4)(cnt:Yu ((b.round+1)*b.setup.seats) b)(str:Str b):qv (kM b):=by
 unfold kM;by_cases e:(b.queues.all fun q=>q.isEmpty)=true
 ·rw[if_pos e];have LS:=all_empty e;have l':qv {b with round:=b.round+1}:=Sm LS l.i.a l.i.nd;by_cases o:over {b with round:=b.round+1}=true
  ·rw[if_pos o];exact l'
  ·rw[if_neg o];have rd:b.round+1<b.setup.rounds:=by
    have o:¬decide (b.setup.rounds<=b.round+1)=true:=o;rw[decide_eq_true_iff]at o;omega
   exact GB (Ba su sh Ab rd cnt str LS) l' _ (ao _)
 ·rw[if_neg e];exact l
theorem VN{t:Table}(h:fw t)(l:qv t)(ho:over t=false){i:Nat}(hi:i<t.setup.seats){p:bA}{r:List bA}(hq:queue t i=p::r){places:List Nat}(ok:iQ t p places):qv (taken t i places):=by
 have hp:p∈queue t i:=by rw[hq];exact ah
 have hk:=(h.str.pk i p hp).2;have hs:0<t.setup.seats:=by omega
 have fr1:=pb t i p r places;have UG:=qg fr1 i p places;have S1:=wX h.str hi hq ok;have S2:=ug (i:=i) S1 fr1 hs hk;have L1:=WO l h.str hi hq ok;have L2:=TV (i:=i) L1.1 L1.2 S1 fr1 hs hk;rw[AN hq];have cnt:Yu ((t.round+1)*t.setup.seats) t:=by
  have:=h.cnt;rw[ho,if_neg (by decide)]at this;exact this
 have sz:∀u:Table,u.setup=t.setup->size u=size t:=fun u e=>by unfold size;rw[e]
 refine NW L2 (by rw[UG.setup];exact h.su) (by rw[UG.sheets,UG.setup];exact h.sh) (by rw[UG.off];exact h.Ab) ⟨?_,?_,?_⟩ S2
 ·rw[UG.cards,UG.round,UG.setup,sz _ UG.setup];exact cnt.cl
 ·rw[UG.off,UG.round,UG.setup];exact cnt.off
 ·rw[UG.cards,UG.setup];exact cnt.cs
theorem FQ:∀(ms:List (Nat×List Nat)) (n:Nat) (t u:Table),fw t->qv t->through n t ms=.ok u->qv u
 |[],n,t,u,h,l,e=>by
  have e:t=u:=yM e;subst e;exact l
 |x::r,n,t,u,h,l,e=>by
  unfold through at e;by_cases q:t.setup.seats<=x.1
  ·rw[if_pos q]at e;cases e
  ·rw[if_neg q]at e;cases e2:picked t x.1 x.2 with
   |error z=>rw[e2]at e;cases e
   |ok w=>
    rw[e2]at e;have hx:x.1<t.setup.seats:=by omega
    obtain⟨ho,p,rr,hq,ok,rfl⟩:=uf h hx e2;exact FQ r _ _ u (AM h ho hx hq ok).1 (VN h l ho hx hq ok) e
theorem pA{α:Type}(n i:Nat):(aO n ([]:List α)).getD i []=[]:=by
 rw[aW,nM];split<;>rfl
theorem tR{s:iy}(h:gT s):lg 0 {setup:=s,sheets:=mixed s,queues:=aO s.seats [],pools:=aO s.seats [],looks:=aO s.seats []}:=by
 refine⟨h,rfl,rfl,h.rounds.1,⟨?_,?_,?_⟩,⟨?_,?_,?_,?_,?_,?_,?_⟩,?_,?_⟩
 ·simp
 ·intro k hk;show([0,0,0,0]:List Nat).getD k 0=(0*s.seats+0)*s.recipe.getD k 0;rw[EY,oN,EY];match k,hk with
  |0,_=>rfl
  |1,_=>rfl
  |2,_=>rfl
  |3,_=>rfl
 ·intro x hx;cases hx
 ·exact dS
 ·exact dS
 ·exact dS
 ·intro c;have a1:BJ c (aO s.seats [])=0:=kC _ _ fun a ha=>by rw[eL ha];rfl
  have a2:C5 c (aO s.seats [])=0:=kC _ _ fun a ha=>by rw[eL ha];rfl
  show BJ c (aO s.seats [])+C5 c (aO s.seats [])=if 1<=c/\c<=0 then 1 else 0
  rw[a1,a2,if_neg (by omega)]
 ·intro o;have a1:w6 o (aO s.seats [])=0:=kC _ _ fun a ha=>by rw[eL ha];rfl
  show w6 o (aO s.seats [])<=1;omega
 ·intro i p hp;have vU:p∈(aO s.seats ([]:List bA)).getD i []:=hp;rw[pA]at vU;cases vU
 ·intro i p hp;have vU:p∈(aO s.seats ([]:List (Nat×List Nat))).getD i []:=hp;rw[pA]at vU;cases vU
 ·intro j _;exact pA _ j
 ·intro o _;exact kC _ _ fun a ha=>by rw[eL ha];rfl
theorem Ym{s:iy}(h:gT s):qv (begun s):=by
 have l0:∀i,lookedAt {setup:=s,sheets:=mixed s,queues:=aO s.seats [],pools:=aO s.seats [],looks:=aO s.seats []} i=[]:=fun i=>pA _ i
 refine GB (tR h) (Sm (fun i=>pA _ i) (fun i=>?_) fun i x hx=>?_) _ (ao _)
 ·rw[l0];exact ym
 ·rw[l0]at hx;cases hx
theorem jm.lk{s:dQ}(h:jm s)(hs:0<s.table.setup.seats):qv s.table:=by
 obtain⟨h1,h2⟩:=h.IE hs;exact FQ _ _ _ _ (rq h1.su).1 (Ym h1.su) h2
end Ma
namespace Pd
open Vbdcaq Ma
abbrev NL:=List (Nat×List Nat)
def nP(l:NL)(k:Nat):Bool:=l.any fun x=>decide (x.1=k)
def fe(l:NL)(x:Nat×List Nat):NL:=if nP l x.1=true then l else l++[x]
def kX(l:NL)(x:Nat×List Nat):NL:=if nP l x.1=true then l.map (fun y=>if y.1=x.1 then x else y)else l++[x]
def firstOf(l:NL):NL:=l.foldl fe []
def lastOf(l:NL):NL:=l.foldl kX []
def eC(l:NL):List Nat:=l.flatMap fun x=>x.2
theorem k8(l:NL)(x:Nat×List Nat):firstOf (l++[x])=fe (firstOf l) x:=by unfold firstOf;rw[om];rfl
theorem xp(l:NL)(x:Nat×List Nat):lastOf (l++[x])=kX (lastOf l) x:=by unfold lastOf;rw[om];rfl
theorem nj{l:NL}{k:Nat}:nP l k=true↔∃x∈l,x.1=k:=by
 unfold nP;rw[dg];constructor
 ·rintro⟨x,h1,h2⟩;exact⟨x,h1,of_decide_eq_true h2⟩
 ·rintro⟨x,h1,h2⟩;exact⟨x,h1,decide_eq_true h2⟩
theorem snoc_ind{α:Type}{P:List α->Prop}(h0:P [])(h1:∀l x,P l->P (l++[x]))(l:List α):P l:=by
 rw[<-l.reverse_reverse];induction l.reverse with
 |nil=>exact h0
 |cons x r ih=>rw[List.reverse_cons];exact h1 _ _ ih
theorem Jo{l:NL}{x:Nat×List Nat}(h:(l.map (·.1)).Nodup)(hx:¬nP l x.1=true):((l++[x]).map (·.1)).Nodup:=by
 rw[aF,gw];refine⟨h,by simp,fun a ha b hb=>?_⟩;rw[aN.mp hb];intro e;obtain⟨y,h1,h2⟩:=bh.mp ha;exact hx (nj.mpr ⟨y,h1,h2.trans e⟩)
theorem Bs(l:NL):((firstOf l).map (·.1)).Nodup:=by
 refine snoc_ind (P:=fun l=>((firstOf l).map (·.1)).Nodup) eI (fun l x h=>?_) l;rw[k8];unfold fe;split
 ·exact h
 ·rename_i q;exact Jo h q
theorem mz(l:NL):∀x∈firstOf l,x∈l:=by
 refine snoc_ind (P:=fun l=>∀x∈firstOf l,x∈l) (fun x hx=>hx) (fun l x h y hy=>?_) l;rw[k8]at hy;unfold fe at hy;split at hy
 ·exact aH.mpr (.inl (h y hy))
 ·rcases aH.mp hy with hy|hy
  ·exact aH.mpr (.inl (h y hy))
  ·exact aH.mpr (.inr hy)
theorem DT(l:NL):∀y∈l,nP (firstOf l) y.1=true:=by
 refine snoc_ind (P:=fun l=>∀y∈l,nP (firstOf l) y.1=true) (fun y hy=>by cases hy) (fun l x h y hy=>?_) l;rw[k8];unfold fe;split
 ·rename_i q;rcases aH.mp hy with hy|hy
  ·exact h y hy
  ·rw[aN.mp hy];exact q
 ·rw[nj];rcases aH.mp hy with hy|hy
  ·obtain⟨z,h1,h2⟩:=nj.mp (h y hy);exact⟨z,aH.mpr (.inl h1),h2⟩
  ·exact⟨y,aH.mpr (.inr hy),rfl⟩
theorem NP(l:NL):(l.Pairwise fun x y=>x.1=y.1->∀c∈y.2,c∈x.2)->∀y∈l,∀x∈firstOf l,x.1=y.1->∀c∈y.2,c∈x.2:=by
 refine snoc_ind (P:=fun l=>(l.Pairwise fun x y=>x.1=y.1->∀c∈y.2,c∈x.2)->∀y∈l,∀x∈firstOf l,x.1=y.1->∀c∈y.2,c∈x.2) (fun _ y hy=>by cases hy) (fun l z ih hp y hy x hx e c hc=>?_) l;rw[ji]at hp;obtain⟨p1,_,p3⟩:=hp;rw[k8]at hx;unfold fe at hx;split at hx
 ·rcases aH.mp hy with hy|hy
  ·exact ih p1 y hy x hx e c hc
  ·exact p3 x (mz l x hx) y hy e c hc
 ·rename_i q;rcases aH.mp hx with hx|hx
  ·rcases aH.mp hy with hy|hy
   ·exact ih p1 y hy x hx e c hc
   ·exact p3 x (mz l x hx) y hy e c hc
  ·rw[aN.mp hx]at e⊢;rcases aH.mp hy with hy|hy
   ·exfalso
    apply q
    rw[e];exact DT l y hy
   ·rw[aN.mp hy]at hc;exact hc
theorem Nt{l:NL}{c:Nat}:c∈eC l↔∃x∈l,c∈x.2:=by unfold eC;rw[jF]
theorem Qt{l:NL}(h:l.Pairwise fun x y=>x.1=y.1->∀c∈y.2,c∈x.2)(c:Nat):c∈eC (firstOf l)↔∃x∈l,c∈x.2:=by
 rw[Nt];constructor
 ·rintro⟨x,h1,h2⟩;exact⟨x,mz l x h1,h2⟩
 ·rintro⟨y,h1,h2⟩;obtain⟨x,h3,h4⟩:=nj.mp (DT l y h1);exact⟨x,h3,NP l h y h1 x h3 h4 c h2⟩
theorem Aj(f:Nat->Nat):∀ {l:NL},(l.map (·.1)).Nodup->(∀x∈l,x.2.Nodup)->(∀x∈l,∀c∈x.2,f c=x.1)->(eC l).Nodup
 |[],_,_,_=>eI
 |x::l,hk,hn,hf=>by
  rw[bo,cB]at hk;unfold eC;rw[dE,gw];refine⟨hn x ah,Aj f hk.2 (fun y hy=>hn y (aA _ hy)) fun y hy=>hf y (aA _ hy),fun a ha b hb e=>?_⟩;obtain⟨y,h1,h2⟩:=jF.mp hb;rw[<-e]at h2;have e1:=hf x ah a ha;have e2:=hf y (aA _ h1) a h2;exact hk.1 (bh.mpr ⟨y,h1,e2.symm.trans e1⟩)
def xq(l:NL)(k:Nat):List Nat:=(l.reverse.find? fun x=>x.1==k).elim [] fun x=>x.2
theorem Ai(l:NL)(x:Nat×List Nat)(k:Nat):xq (l++[x]) k=if x.1=k then x.2 else xq l k:=tP l x.1 k x.2
theorem xo(l:NL):((lastOf l).map (·.1)).Nodup/\(∀k,nP (lastOf l) k=nP l k)/\∀x∈lastOf l,x.2=xq l x.1:=by
 refine snoc_ind (P:=fun l=>((lastOf l).map (·.1)).Nodup/\(∀k,nP (lastOf l) k=nP l k)/\∀x∈lastOf l,x.2=xq l x.1) ⟨eI,fun _=>rfl,fun x hx=>by cases hx⟩ (fun l x h=>?_) l;obtain⟨h1,h2,h3⟩:=h;rw[xp];have hs:∀k,nP (l++[x]) k=(nP l k||decide (x.1=k)):=fun k=>by unfold nP;rw[List.any_append];simp
 unfold kX;by_cases q:nP (lastOf l) x.1=true
 ·rw[if_pos q];have mk:((lastOf l).map fun y=>if y.1=x.1 then x else y).map (·.1)=(lastOf l).map (·.1):=by
   rw[cO];apply bU;intro y _;show(if y.1=x.1 then x else y).1=y.1;split
   ·rename_i e;exact e.symm
   ·rfl
  refine⟨by rw[mk];exact h1,fun k=>?_,fun y hy=>?_⟩
  ·have:nP ((lastOf l).map fun y=>if y.1=x.1 then x else y) k=nP (lastOf l) k:=by
    have e1:∀l:NL,nP l k=(l.map (·.1)).any fun a=>decide (a=k):=fun l=>by unfold nP;rw[En];rfl
    rw[e1,mk,<-e1]
   rw[this,hs,h2];by_cases e:x.1=k
   ·rw[<-e,<-h2,q];rfl
   ·simp[e]
  ·obtain⟨z,hz,rfl⟩:=bh.mp hy;rw[Ai];by_cases e:z.1=x.1
   ·rw[if_pos e,if_pos rfl]
   ·rw[if_neg e,if_neg (fun q=>e q.symm)];exact h3 z hz
 ·rw[if_neg q];refine⟨Jo h1 q,fun k=>?_,fun y hy=>?_⟩
  ·have:nP (lastOf l++[x]) k=(nP (lastOf l) k||decide (x.1=k)):=by unfold nP;rw[List.any_append];simp
   rw[this,hs,h2]
  ·rw[Ai];rcases aH.mp hy with hy|hy
   ·rw[if_neg (fun e=>q (nj.mpr ⟨y,hy,e.symm⟩))];exact h3 y hy
   ·rw[aN.mp hy,if_pos rfl]
theorem yB{l:NL}{k c:Nat}(h:c∈xq l k):∃x∈l,x.1=k/\x.2=xq l k:=by
 revert h
 refine snoc_ind (P:=fun l=>c∈xq l k->∃x∈l,x.1=k/\x.2=xq l k) (fun h=>by cases h) (fun l x ih h=>?_) l;rw[Ai]at h⊢;by_cases e:x.1=k
 ·rw[if_pos e];exact⟨x,aH.mpr (.inr ah),e,rfl⟩
 ·rw[if_neg e]at h⊢;obtain⟨y,h1,h2,h3⟩:=ih h;exact⟨y,aH.mpr (.inl h1),h2,h3⟩
theorem Up{l:NL}(f:Nat->Nat)(hf:∀x∈l,∀c∈x.2,f c=x.1)(c:Nat):c∈eC (lastOf l)↔c∈xq l (f c):=by
 obtain⟨h1,h2,h3⟩:=xo l;rw[Nt];constructor
 ·rintro⟨x,hx,hc⟩;rw[h3 x hx]at hc;obtain⟨y,h4,h5,h6⟩:=yB hc;rw[<-h6]at hc;rw[hf y h4 c hc,h5,<-h6];exact hc
 ·intro hc;obtain⟨y,h4,h5,h6⟩:=yB hc;obtain⟨x,h7,h8⟩:=nj.mp ((h2 (f c)).trans (nj.mpr ⟨y,h4,h5⟩));refine⟨x,h7,?_⟩;rw[h3 x h7,h8];exact hc
theorem P4{l:NL}(f:Nat->Nat)(hn:∀x∈l,x.2.Nodup)(hf:∀x∈l,∀c∈x.2,f c=x.1):(eC (lastOf l)).Nodup:=by
 obtain⟨h1,h2,h3⟩:=xo l;have key:∀x∈lastOf l,x.2=[]\/∃y∈l,y.1=x.1/\y.2=x.2:=fun x hx=>by
  rw[h3 x hx];cases e:xq l x.1 with
  |nil=>exact .inl rfl
  |cons c r=>
   obtain⟨y,h4,h5,h6⟩:=yB (show c∈xq l x.1 by rw[e];exact ah);exact .inr ⟨y,h4,h5,by rw[h6,e]⟩
 refine Aj f h1 (fun x hx=>?_) fun x hx c hc=>?_
 ·rcases key x hx with e|⟨y,h4,h5,h6⟩
  ·rw[e];exact eI
  ·rw[<-h6];exact hn y h4
 ·rcases key x hx with e|⟨y,h4,h5,h6⟩
  ·rw[e]at hc;cases hc
  ·rw[<-h5];rw[<-h6]at hc;exact hf y h4 c hc
section
variable {t:Table} (h:Str t) (L:qv t) (i:Nat)
theorem GX(h:Str t)(i:Nat):∀x∈lookedAt t i,∀c∈x.2,keyOf t c=x.1:=fun x hx c hc=>((h.lk i x hx).2 c hc).1
theorem Rl(h:Str t)(L:qv t)(i:Nat):(eC (firstOf (lookedAt t i))).Nodup:=
 Aj (keyOf t) (Bs _) (fun x hx=>L.i.nd i x (mz _ x hx)) fun x hx=>GX h i x (mz _ x hx)
theorem Kd(L:qv t)(i c:Nat):c∈eC (firstOf (lookedAt t i))↔j7 t i c:=Qt (L.i.a i) c
theorem Fh(h:Str t)(i c:Nat):c∈eC (lastOf (lookedAt t i))↔c∈lastLook t i (keyOf t c):=Up (keyOf t) (GX h i) c
theorem Z5(h:Str t)(L:qv t)(i:Nat):(eC (lastOf (lookedAt t i))).Nodup:=P4 (keyOf t) (L.i.nd i) (GX h i)
theorem Jm(h:Str t)(L:qv t)(i c:Nat)(hc:c∈eC (lastOf (lookedAt t i))):j7 t i c:=by
 rw[Fh h]at hc;obtain⟨x,h1,_,h3⟩:=yB (l:=lookedAt t i) (k:=keyOf t c) hc;exact⟨x,h1,by rw[h3];exact hc⟩
def uB(t:Table)(i:Nat):List Nat:=match queue t i with
 |[]=>[]
 |p::_=>p.cards
theorem aap(h:Str t)(L:qv t)(i c:Nat):(c∈eC (firstOf (lookedAt t i))/\c∉eC (lastOf (lookedAt t i))/\c∉cA t i)↔j7 t i c/\c∉cA t i/\c∉lastLook t i (keyOf t c):=by
 rw[Kd L,Fh h];constructor
 ·rintro⟨a,b,c⟩;exact⟨a,c,b⟩
 ·rintro⟨a,b,c⟩;exact⟨a,c,b⟩
theorem aaK(h:Str t)(L:qv t)(i c:Nat):(c∈eC (lastOf (lookedAt t i))/\c∉uB t i/\c∉cA t i)↔j7 t i c/\c∉cA t i/\c∈lastLook t i (keyOf t c)/\front t i≠some (keyOf t c):=by
 have key:c∈lastLook t i (keyOf t c)->(c∉uB t i↔front t i≠some (keyOf t c)):=by
  intro hc;unfold uB front;cases e:queue t i with
  |nil=>
   show(c∉ [])↔(none≠some (keyOf t c));simp
  |cons p r=>
   have hp:p∈queue t i:=by rw[e];exact ah
   show(c∉p.cards)↔(some (Np t p)≠some (keyOf t c));constructor
   ·intro h1 h2;have h2:=ax h2;rw[<-h2,L.f i p r e]at hc;exact h1 hc
   ·intro h1 h2;exact h1 (congrArg some ((h.pk i p hp).2.2 c h2).symm)
 constructor
 ·rintro⟨a,b,d⟩;have a':=(Fh h i c).mp a;exact⟨Jm h L i c a,d,a',(key a').mp b⟩
 ·rintro⟨a,b,d,e⟩;exact⟨(Fh h i c).mpr d,(key d).mpr e,b⟩
theorem RU{t:Table}(h:Str t)(hc:t.cards.length<=640)(i:Nat):∀x∈lookedAt t i,x.1<640:=fun x hx=>by
 obtain⟨h1,h2⟩:=h.lk i x hx;obtain⟨c,hc⟩:=LN _ h1;obtain⟨e,h3,h4⟩:=h2 c hc;rw[<-e];have:(c-1)/size t<=c-1:=Nat.div_le_self _ _;omega
theorem acU{t:Table}(h:fw t)(i:Nat):∀x∈lookedAt t i,x.1<640:=RU h.str (gY h) i
end
theorem KQ:∀(n:Nat) {l:List Nat},l.Nodup->(∀x∈l,x<n)->l.length<=n
 |0,l,_,hl=>by
  cases l with
  |nil=>exact ao _
  |cons x r=>exact absurd (hl x ah) (fc _)
 |n+1,l,hn,hl=>by
  have h1:=He (fun c=>decide (c≠n)) l;have h2:=KQ n (l:=l.filter fun c=>decide (c≠n)) (hn.filter _) fun x hx=>by
   obtain⟨h3,h4⟩:=dm.mp hx;have:=hl x h3;have:=of_decide_eq_true h4;omega
  have h3:(fun c=>!decide (c≠n))=(fun c=>c==n):=by funext c;by_cases e:c=n<;>simp[e]
  have h5:(l.filter fun c=>!decide (c≠n)).length=l.count n:=by rw[h3,<-HR];rfl
  have h4:=fY.mp hn n;omega
theorem Jf{t:Table}(h:∀i,∀x∈lookedAt t i,x.1<640)(i:Nat):(firstOf (lookedAt t i)).length<=640/\(lastOf (lookedAt t i)).length<=640:=by
 constructor
 ·rw[<-ae (f:=fun x:Nat×List Nat=>x.1)];refine KQ 640 (Bs _) fun k hk=>?_
  obtain⟨x,hx,rfl⟩:=bh.mp hk;exact h i x (mz _ x hx)
 ·obtain⟨h1,h2,h3⟩:=xo (lookedAt t i);rw[<-ae (f:=fun x:Nat×List Nat=>x.1)];refine KQ 640 h1 fun k hk=>?_
  obtain⟨x,hx,rfl⟩:=bh.mp hk;obtain⟨y,h4,h5⟩:=nj.mp ((h2 x.1).symm.trans (nj.mpr ⟨x,hx,rfl⟩));rw[<-h5];exact h i y h4
def Ri:List (List Nat)->Nat->List (List Nat)
 |[],c=>[[c]]
 |[x],c=>[x++[c]]
 |x::y::r,c=>x::Ri (y::r) c
theorem AO(sep:Nat):∀l,split sep l≠ []
 |[]=>by unfold split;simp
 |c::r=>by
  unfold split;split
  ·simp
  ·split<;>simp
theorem zN(sep c:Nat):∀l,split sep (l++[c])=if c=sep then split sep l++[[]]else Ri (split sep l) c
 |[]=>by
  show split sep [c]=_;unfold split;by_cases e:c=sep
  ·rw[if_pos e,if_pos e];rfl
  ·rw[if_neg e,if_neg e];rfl
 |d::l=>by
  show split sep (d::(l++[c]))=_;have ih:=zN sep c l;have h1:split sep (d::(l++[c]))=if d=sep then []::split sep (l++[c])else match split sep (l++[c])with
   |l::ls=>(d::l)::ls
   |[]=>[[d]]:=rfl
  have h2:split sep (d::l)=if d=sep then []::split sep l else match split sep l with
   |l::ls=>(d::l)::ls
   |[]=>[[d]]:=rfl
  rw[h1,h2,ih];cases e0:split sep l with
  |nil=>exact absurd e0 (AO sep l)
  |cons x r=>
   by_cases e:c=sep
   ·rw[if_pos e,if_pos e];by_cases f:d=sep
    ·rw[if_pos f,if_pos f];rfl
    ·rw[if_neg f,if_neg f];rfl
   ·rw[if_neg e,if_neg e];by_cases f:d=sep
    ·rw[if_pos f,if_pos f];rfl
    ·rw[if_neg f,if_neg f];cases r with
     |nil=>rfl
     |cons y r=>rfl
theorem split_len(sep:Nat):∀l,(split sep l).length<=l.length+1
 |[]=>ao _
 |c::r=>by
  have ih:=split_len sep r;unfold split;split
  ·rw[az,az];omega
  ·split
   ·rename_i h;rw[h]at ih;rw[az,az]at*;omega
   ·rw[az,az];simp
theorem l9(sep:Nat):∀l,∀x∈split sep l,x.length<=l.length/\∀c∈x,c∈l
 |[],x,hx=>by
  have:x=[]:=by unfold split at hx;exact aN.mp hx
  rw[this];exact⟨ao _,fun c h=>by cases h⟩
 |c::r,x,hx=>by
  unfold split at hx;split at hx
  ·rcases aM.mp hx with rfl|hx
   ·exact⟨bK _,fun c h=>by cases h⟩
   ·have:=l9 sep r x hx;exact⟨bN this.1 (iV _),fun c h=>aA _ (this.2 c h)⟩
  ·split at hx
   ·rename_i l ls h;rcases aM.mp hx with rfl|hx
    ·have:=l9 sep r l (by rw[h];exact ah);refine⟨HI this.1,fun d hd=>?_⟩;rcases aM.mp hd with rfl|hd
     ·exact ah
     ·exact aA _ (this.2 d hd)
    ·have:=l9 sep r x (by rw[h];exact aA _ hx);exact⟨bN this.1 (iV _),fun c h=>aA _ (this.2 c h)⟩
   ·have:x=[c]:=aN.mp hx;rw[this];exact⟨HI (bK _),fun d hd=>by rw[aN.mp hd];exact ah⟩
def u7(b:List Nat):Bool:=(decide (1<=b.length)&&decide (b.length<=2))&&((b.all fun c=>decide (48<=c)&&decide (c<=57))&&(decide (b.length=1)||decide (b.head?≠some 48)))
def tJ(b:List Nat):Nat:=b.foldl (fun n c=>10*n+(c-48)) 0
theorem Ua(b:List Nat):number b=if u7 b=true then some (tJ b)else none:=by
 unfold number;have key:(b.isEmpty=true\/2<b.length\/b.any (fun c=>decide (c<48\/57<c))=true\/(b.head?=some 48/\b.length≠1))↔¬u7 b=true:=by
  unfold u7;rw[aE,aE,aE,HS,decide_eq_true_iff,decide_eq_true_iff,decide_eq_true_iff,decide_eq_true_iff,fZ];have ha:b.any (fun c=>decide (c<48\/57<c))=true↔¬(b.all fun c=>decide (48<=c)&&decide (c<=57))=true:=by
   rw[dg,bD];constructor
   ·rintro⟨c,hc,h⟩ pO;have h1:=pO c hc;rw[aE,decide_eq_true_iff,decide_eq_true_iff]at h1;have:=of_decide_eq_true h;omega
   ·intro h;apply bZ;intro no;apply h;intro c hc;rw[aE,decide_eq_true_iff,decide_eq_true_iff];have:¬decide (c<48\/57<c)=true:=fun q=>no ⟨c,hc,q⟩
    rw[decide_eq_true_iff]at this;omega
  rw[ha];have hb:b=[]↔b.length=0:=jH.symm;rw[hb];constructor
  ·rintro(h|h|h|⟨h1,h2⟩) ⟨⟨a1,a2⟩,a3,a4⟩
   ·omega
   ·omega
   ·exact h a3
   ·rcases a4 with a4|a4
    ·exact h2 a4
    ·exact a4 h1
  ·intro h;by_cases c1:b.length=0
   ·exact .inl c1
   by_cases c2:2<b.length
   ·exact .inr (.inl c2)
   by_cases c3:(b.all fun c=>decide (48<=c)&&decide (c<=57))=true
   ·refine .inr (.inr (.inr ?_));by_cases c4:b.head?=some 48
    ·refine⟨c4,fun c5=>h ⟨⟨by omega,by omega⟩,c3,.inl c5⟩⟩
    ·exact absurd ⟨⟨by omega,by omega⟩,c3,.inr c4⟩ h
   ·exact .inr (.inr (.inl c3))
 by_cases h:u7 b=true
 ·rw[if_pos h,if_neg (fun q=>key.mp q h)];rfl
 ·rw[if_neg h,if_pos (key.mpr h)]
theorem RL{b:List Nat}(h:u7 b=true):tJ b<100:=by
 unfold u7 at h;rw[aE,aE,aE,decide_eq_true_iff,decide_eq_true_iff,bD]at h;obtain⟨⟨h1,h2⟩,h3,_⟩:=h;have hc:∀c∈b,c-48<=9:=fun c hc=>by
  have:=h3 c hc;rw[aE,decide_eq_true_iff,decide_eq_true_iff]at this;omega
 match b,h1,h2,hc with
 |[x],_,_,hc=>
  have:=hc x ah;show 10*0+(x-48)<100;omega
 |[x,y],_,_,hc=>
  have:=hc x ah;have:=hc y (aA _ ah);show 10*(10*0+(x-48))+(y-48)<100;omega
def lL(l:List Nat):Bool:=(decide (2<=(split 32 l).length)&&decide ((split 32 l).length<=4))&&(split 32 l).all u7
theorem Nf:∀ps:List (List Nat),ps.mapM number=if ps.all u7=true then some (ps.map tJ)else none
 |[]=>rfl
 |p::ps=>by
  rw[List.mapM_cons,Ua,Nf ps,dM];cases u7 p with
  |false=>rfl
  |true=>
   cases ps.all u7 with
   |false=>rfl
   |true=>rfl
def kJ(l:List Nat):Nat×List Nat:=(((split 32 l).map tJ).headD 0,((split 32 l).map tJ).tail)
theorem MP(l:List Nat):readMove l=if lL l=true then some (kJ l)else none:=by
 unfold readMove lL kJ;rw[Nf];cases h:(split 32 l).all u7 with
 |false=>rw[JX,if_neg (by decide),if_neg (by decide)]
 |true=>
  rw[eM,if_pos rfl];match split 32 l with
  |[]=>rfl
  |[a]=>rfl
  |[a,b]=>rfl
  |[a,b,c]=>rfl
  |[a,b,c,d]=>rfl
  |a::b::c::d::e::r=>
   rw[if_neg (by simp)];show(if ((tJ c::tJ d::tJ e::r.map tJ).length<=2)then _ else _)=_;rw[if_neg (by simp)]
theorem RO{l:List Nat}(h:lL l=true):(kJ l).1<100/\1<=(kJ l).2.length/\(kJ l).2.length<=3/\(∀k∈(kJ l).2,k<100)/\(split 32 l).map tJ=(kJ l).1::(kJ l).2:=by
 unfold lL at h;rw[aE,aE,decide_eq_true_iff,decide_eq_true_iff,bD]at h;obtain⟨⟨h1,h2⟩,h3⟩:=h;unfold kJ;cases e:split 32 l with
 |nil=>rw[e]at h1;exact absurd h1 (by simp)
 |cons a r=>
  rw[e]at h1 h2 h3;rw[az]at h1 h2;refine⟨RL (h3 a ah),?_,?_,fun k hk=>?_,rfl⟩
  ·show 1<=(r.map tJ).length;rw[ae];omega
  ·show(r.map tJ).length<=3;rw[ae];omega
  ·obtain⟨b,hb,rfl⟩:=bh.mp (show k∈r.map tJ from hk);exact RL (h3 b (aA _ hb))
def ib:Nat->List (List Nat)->Nat
 |_,[]=>0
 |n,[l]=>if l.isEmpty=true then 0 else n
 |n,l::r=>if lL l=true then ib (n+1) r else n
theorem AZ:∀(ps:List (List Nat)) (n:Nat),0<n->readMoves n ps=if ib n ps=0 then .ok (ps.dropLast.map kJ)else .error (ib n ps)
 |[],n,hn=>rfl
 |[l],n,hn=>by
  unfold readMoves ib;by_cases e:l.isEmpty=true
  ·rw[if_pos e,if_pos e];rfl
  ·rw[if_neg e,if_neg e,if_neg (by omega)]
 |l::y::r,n,hn=>by
  unfold readMoves ib;rw[MP,AZ (y::r) (n+1) (by omega)];by_cases e:lL l=true
  ·rw[if_pos e,if_pos e];by_cases w:ib (n+1) (y::r)=0
   ·rw[if_pos w,if_pos w];rfl
   ·rw[if_neg w,if_neg w]
  ·rw[if_neg e,if_neg e];show Except.error n=_;rw[if_neg (by omega)]
end Pd
namespace Pd
open PySem
def Qh:Nat->Nat->Nat
 |0,x=>x
 |n+1,x=>Qh n (5*x+1)
theorem KY:∀(a b x:Nat),Qh (a+b) x=Qh b (Qh a x)
 |0,b,x=>by rw[oN];rfl
 |a+1,b,x=>by rw[Di];exact KY a b (5*x+1)
theorem RY:∀k,∃A C,∀x,Qh (2^k) x=x*(1+4*2^k*A)+2^k*(2*C+1)
 |0=>⟨1,0,fun x=>by show 5*x+1=_;omega⟩
 |k+1=>by
  obtain⟨A,C,h⟩:=RY k;refine⟨A+2^(k+1)*A*A,C+(2*C+1)*2^k*A,fun x=>?_⟩;have e:2^(k+1)=2^k+2^k:=by rw[yi];omega
  rw[e,KY,h,h,<-e];have e2:2^(k+1)=2*2^k:=by omega
  generalize 2^(k+1)=q at*;generalize 2^k=p at*;subst e2
  grind
theorem Nv:∀(k x y:Nat),y<2^k->∃n,n<2^k/\Qh n x %2^k=y
 |0,x,y,h=>⟨0,by decide,by rw[QY,Nat.mod_one];rw[QY]at h;omega⟩
 |k+1,x,y,h=>by
  have e:2^(k+1)=2*2^k:=by rw[yi];omega
  have hp:0<2^k:=Nat.pow_pos (by decide);obtain⟨n,hn,h1⟩:=Nv k x (y %2^k) (iX _ hp);obtain⟨A,C,hA⟩:=RY k;have a1:Qh n x %2^(k+1) %2^k=y %2^k:=by
   rw[e,lP,Nat.mod_mul_right_mod];exact h1
  have a2:Qh n x %2^(k+1)<2*2^k:=by rw[<-e];exact iX _ (by omega)
  by_cases q:Qh n x %2^(k+1)=y
  ·exact⟨n,by omega,q⟩
  ·refine⟨n+2^k,by omega,?_⟩;rw[KY,hA];have e3:Qh n x*(1+4*2^k*A)+2^k*(2*C+1)=(Qh n x+2^k)+2^(k+1)*(2*Qh n x*A+C):=by
    rw[e];generalize 2^k=p;generalize Qh n x=z
    grind
   rw[e3,Nat.add_mul_mod_self_left,Vi,e];rw[e]at q h;generalize hz:Qh n x %(2*2^k)=z at*;have hm:2^k %(2*2^k)=2^k:=f7 (by omega);rw[hm];rw[e,hz]at a1 a2;generalize 2^k=p at*;by_cases hz1:z<p
   ·rw[f7 hz1]at a1;by_cases hy:y<p
    ·rw[f7 hy]at a1;exact absurd a1 q
    ·have:y %p=y-p:=by rw[tU (by omega),f7 (by omega)]
     rw[f7 (by omega)];omega
   ·have hz2:z %p=z-p:=by rw[tU (by omega),f7 (by omega)]
    rw[hz2]at a1;by_cases hy:y<p
    ·rw[f7 hy]at a1;rw[tU (by omega),f7 (by omega)];omega
    ·have:y %p=y-p:=by rw[tU (by omega),f7 (by omega)]
     omega
def pj(mask:Nat):Nat->Nat×Nat->Nat×Nat
 |0,s=>s
 |n+1,s=>pj mask n (iz mask s.1 s.2)
theorem CY(mask:Nat):∀(a b:Nat) (s:Nat×Nat),pj mask (a+b) s=pj mask b (pj mask a s)
 |0,b,s=>by rw[oN];rfl
 |a+1,b,s=>by rw[Di];exact CY mask a b _
theorem Jj(mask:Nat):∀(n:Nat) (s:Nat×Nat),(pj mask n s).2=s.2/32^n
 |0,s=>by rw[QY,Nat.div_one];rfl
 |n+1,s=>by
  show(pj mask n _).2=_;rw[Jj mask n,yi,lP,<-Nat.div_div_eq_div_mul];rfl
theorem Jk(k:Nat):∀(n x:Nat),(pj (2^k-1) n (x %2^k,0))=(Qh n x %2^k,0)
 |0,x=>rfl
 |n+1,x=>by
  have hp:0<2^k:=Nat.pow_pos (by decide);have:iz (2^k-1) (x %2^k) 0=((5*x+1) %2^k,0):=by
   unfold iz;rw[Nat.sub_add_cancel hp];refine SW ?_ rfl;show(x %2^k*5+1+0) %2^k=_;rw[rP,Vi,Nat.mod_mul_mod,<-Vi,lP]
  show pj (2^k-1) n (iz _ _ _)=_;rw[this];exact Jk k n (5*x+1)
theorem Ji{mask k:Nat}(hm:mask+1=2^k){i p:Nat}(hp:p<2^64){j:Nat}(hj:j<=mask):∃n,n<=mask+13/\(pj mask n (i,p)).1=j:=by
 have em:mask=2^k-1:=by omega
 have hb:(pj mask 13 (i,p)).1<=mask:=by
  rw[show(13:Nat)=12+1 from rfl,CY];show(iz mask _ _).1<=mask;unfold iz;exact Iv.mp (iX _ (QX _))
 have h2:(pj mask 13 (i,p)).2=0:=by
  rw[Jj];exact Nat.div_eq_of_lt (E1 hp (by decide))
 obtain⟨n,h3,h4⟩:=Nv k (pj mask 13 (i,p)).1 j (by omega);refine⟨13+n,by omega,?_⟩;rw[CY];generalize pj mask 13 (i,p)=s at*;obtain⟨a,b⟩:=s;have h2:b=0:=h2;subst h2;have hb:a<=mask:=hb;have:a %2^k=a:=f7 (by omega);have h5:=Jk k n a;rw[this]at h5;rw[em,h5];exact h4
theorem TM(mask i:Nat):i<=dO mask i:=by unfold dO;split<;>omega
theorem K9{α:Type}{a:Array (Option α)}{j:Nat}{d:α}(h:a.getD j (some d)=none):j<a.size:=by
 by_cases e:j<a.size
 ·exact e
 ·rw[c8,iJ (by omega)]at h;cases h
theorem zi{α:Type}{a:Array (Option α)}{j:Nat}(d:α)(h:j<a.size):a.getD j (some d)=none↔a.getD j none=none:=by
 rw[c8,c8,cW h];exact Iff.rfl
theorem Jx{mask:Nat}{owner:Array (Option Nat)}(ho:owner.size=mask+1):
  ∀(fuel i p:Nat),(∃n,n<fuel/\owner.getD ((pj mask n (i,p)).1) (some 0)=none)->∃j,lq mask owner fuel i p=some j/\owner.getD j (some 0)=none
 |0,i,p,⟨n,h,_⟩=>absurd h (fc _)
 |fuel+1,i,p,⟨n,h1,h2⟩=>by
  unfold lq;cases e:(aG (dO mask i+1-i)).find? fun k=>(owner.getD (i+k) (some 0)).isNone with
  |some k=>
   have:=List.find?_some e;exact⟨i+k,rfl,Option.isNone_iff_eq_none.mp this⟩
  |none=>
   have e0:=Ca.mp e 0 (bG.mpr (by have:=TM mask i;omega));cases n with
   |zero=>
    have h2:owner.getD i (some 0)=none:=h2;rw[rP,h2]at e0;exact absurd rfl e0
   |succ n=>exact Jx ho fuel _ _ ⟨n,by omega,h2⟩
theorem SD(h:Int):cQ h<2^64:=by
 unfold cQ;have h1:=Int.emod_nonneg h (show(2^64:Int)≠0 by decide);have h2:=Int.emod_lt_of_pos h (show(0:Int)<2^64 by decide);omega
structure QL(mask m:Nat)(owner:Array (Option Nat)):Prop where
 sz:owner.size=mask+1
 all:∀k,k<m->∃j,j<=mask/\owner.getD j none=some k
 lt:∀j k,owner.getD j none=some k->k<m
 inj:∀j j' k,owner.getD j none=some k->owner.getD j' none=some k->j=j'
theorem QL.room{mask m:Nat}{owner:Array (Option Nat)}(h:QL mask m owner)(hm:m<=mask):∃j,j<=mask/\owner.getD j none=none:=by
 apply bZ
 intro no;have full:∀j,j<=mask->∃k,owner.getD j none=some k:=fun j hj=>by
  cases e:owner.getD j none with
  |none=>exact absurd ⟨j,hj,e⟩ no
  |some k=>exact⟨k,rfl⟩
 have:=KQ m (l:=(aG (mask+1)).map fun j=>(owner.getD j none).getD 0) (by
  rw[wg,ip];refine gE (R:=fun a b=>a≠b) (fun{a b} ha hb ne e=>?_) (vP (n:=mask+1));obtain⟨k,hk⟩:=full a (by have:=bG.mp ha;omega);obtain⟨k',LR⟩:=full b (by have:=bG.mp hb;omega);rw[hk,LR]at e;have e:k=k':=e;subst e;exact ne (h.inj a b k hk LR)) (fun x hx=>by
  obtain⟨j,hj,rfl⟩:=bh.mp hx;obtain⟨k,hk⟩:=full j (by have:=bG.mp hj;omega);rw[hk];exact h.lt j k hk)
 rw[ae,ba]at this;omega
theorem ZJ{mask m:Nat}{owner:Array (Option Nat)}(h:QL mask m owner){j:Nat}(hj:owner.getD j (some 0)=none):QL mask (m+1) (owner.setIfInBounds j (some m)):=by
 have jl:=K9 hj;have g:∀i,(owner.setIfInBounds j (some m)).getD i none=if i=j then some m else owner.getD i none:=fun i=>by
  rw[c8,Array.getElem?_setIfInBounds];by_cases e:j=i
  ·rw[if_pos e,if_pos e.symm,if_pos (by omega)];rfl
  ·rw[if_neg e,if_neg (fun q=>e q.symm),c8]
 have C0:=(zi 0 jl).mp hj;refine⟨by rw[Array.size_setIfInBounds];exact h.sz,fun k hk=>?_,fun i k e=>?_,fun i i' k e e'=>?_⟩
 ·by_cases e:k=m
  ·exact⟨j,by have:=h.sz;omega,by rw[g,if_pos rfl,e]⟩
  ·obtain⟨i,h1,h2⟩:=h.all k (by omega);refine⟨i,h1,?_⟩;rw[g,if_neg (fun q=>by rw[q,C0]at h2;cases h2)];exact h2
 ·rw[g]at e;split at e
  ·cases e;omega
  ·have:=h.lt i k e;omega
 ·rw[g]at e e';split at e<;>split at e'
  ·rename_i a b;rw[a,b]
  ·cases e;have:=h.lt i' m e';omega
  ·cases e';have:=h.lt i m e;omega
  ·exact h.inj i i' k e e'
theorem Nl{mask k:Nat}(hm:mask+1=2^k)(hashes:Array Int)(hn:hashes.size<=mask+1):∃owner,QV mask hashes=some owner/\QL mask hashes.size owner:=by
 unfold QV;rw[<-Array.foldl_toList];have go:∀(l:List Int) (owner:Array (Option Nat)) (m:Nat),QL mask m owner->m+l.length<=mask+1->
   ∃o,(l.foldl (fun(acc:Option (Array (Option Nat)×Nat)) h=>do
    let (owner,k)<-acc
    let j<-lq mask owner (ko mask) (cQ h %(mask+1)) (cQ h)
    pure (owner.setIfInBounds j (some k),k+1)) (some (owner,m)))=some (o,m+l.length)/\QL mask (m+l.length) o:=by
  intro l;induction l with
  |nil=>intro owner m h _;exact⟨owner,rfl,h⟩
  |cons x r ih=>
   intro owner m h hl;rw[az]at hl;obtain⟨j0,hj0,he⟩:=h.room (by omega);obtain⟨n,hn,e⟩:=Ji hm (i:=cQ x %(mask+1)) (SD x) hj0;obtain⟨j,h1,h2⟩:=Jx h.sz (ko mask) (cQ x %(mask+1)) (cQ x) ⟨n,by unfold ko;omega,by rw[e];exact(zi 0 (by rw[h.sz];omega)).mpr he⟩;obtain⟨o,h3,h4⟩:=ih _ (m+1) (ZJ h h2) (by omega);refine⟨o,?_,by rw[az,yj r.length,<-B0];exact h4⟩;rw[yl,az];show B9 _ ((lq mask owner (ko mask) (cQ x %(mask+1)) (cQ x)).bind _) r=_;rw[h1];show B9 _ (some (owner.setIfInBounds j (some m),m+1)) r=_;rw[h3]
   congr 2
   omega
 have abi:∀(j k:Nat),(Y9 (mask+1) (none:Option Nat)).getD j none=some k->False:=fun j k e=>by
  rw[c8,Array.getElem?_replicate]at e;split at e<;>cases e
 obtain⟨o,h1,h2⟩:=go hashes.toList (Y9 (mask+1) none) 0 ⟨Array.size_replicate,fun k hk=>absurd hk (fc _),fun j k e=>(abi j k e).elim,fun j j' k e=>(abi j k e).elim⟩ (by rw[aI];omega);rw[oN,aI]at h1 h2;refine⟨o,?_,h2⟩;rw[h1];rfl
def QK(l:List Nat)(m:Nat):Prop:=l.Pairwise (· < ·)/\∀x∈l,x<=m
theorem RT{mask k:Nat}(hm:mask+1=2^k)(finger moves:Nat)(led plain:Bool)(hashes:Array Int)(hn:hashes.size<=mask+1):
  ∃pl order,yY mask finger moves led plain hashes=some (⟨mask,pl,#[],finger,led,moves,plain⟩,order)/\QK pl.toList mask/\pl.size=hashes.size/\order.toList.Perm (aG hashes.size):=by
 obtain⟨owner,h1,h2⟩:=Nl hm hashes hn;have el:yY mask finger moves led plain hashes=some (⟨mask,(((aG (mask+1)).filterMap fun j=>(owner.getD j none).map (j,·)).map (·.1)).toArray,#[],finger,led,moves,plain⟩,(((aG (mask+1)).filterMap fun j=>(owner.getD j none).map (j,·)).map (·.2)).toArray):=by
  unfold yY;rw[h1];rfl
 have mem:∀x:Nat×Nat,x∈(aG (mask+1)).filterMap (fun j=>(owner.getD j none).map (j,·))↔x.1<=mask/\owner.getD x.1 none=some x.2:=by
  intro x;rw[tm];constructor
  ·rintro⟨j,hj,e⟩;obtain⟨k,hk,rfl⟩:=jW.mp e;exact⟨by have:=bG.mp hj;show j<=mask;omega,hk⟩
  ·rintro⟨h3,h4⟩;exact⟨x.1,bG.mpr (by omega),by rw[h4];rfl⟩
 have rise:((aG (mask+1)).filterMap fun j=>(owner.getD j none).map (j,·)).Pairwise fun x y=>x.1<y.1:=by
  refine Ep (R:=fun a b=>a<b) _ (fun a a' h b hb b' hb'=>?_) OU;obtain⟨k,_,rfl⟩:=jW.mp hb;obtain⟨k',_,rfl⟩:=jW.mp hb';exact h
 have perm:(((aG (mask+1)).filterMap fun j=>(owner.getD j none).map (j,·)).map (·.2)).Perm (aG hashes.size):=by
  refine Ma.o9 ?_ vP fun k=>?_
  ·rw[wg,ip];refine gE (fun{a b} ha hb lt e=>?_) rise;have:=h2.inj a.1 b.1 a.2 ((mem a).mp ha).2 (by rw[e];exact((mem b).mp hb).2);omega
  ·rw[bh,bG];constructor
   ·rintro⟨x,hx,rfl⟩;exact h2.lt x.1 x.2 ((mem x).mp hx).2
   ·intro hk;obtain⟨j,h3,h4⟩:=h2.all k hk;exact⟨(j,k),(mem (j,k)).mpr ⟨h3,h4⟩,rfl⟩
 refine⟨_,_,el,⟨?_,?_⟩,?_,?_⟩
 ·rw[ip];exact rise
 ·intro j hj;obtain⟨x,hx,rfl⟩:=bh.mp hj;exact((mem x).mp hx).1
 ·have:=perm.length_eq;rw[ae,ba]at this;rw[aZ,ae];exact this
 ·exact perm
theorem Hv{xs:Array Nat}(hr:xs.toList.Pairwise (· < ·))(j:Nat):∀(fuel lo hi:Nat),lo<=hi->hi<=xs.size->hi-lo<=fuel->(∀i (h:i<xs.size),i<lo->xs[i]<j)->(∀i (h:i<xs.size),hi<=i->j<=xs[i])->
  pS xs j fuel lo hi<=xs.size/\(∀i (h:i<xs.size),i<pS xs j fuel lo hi->xs[i]<j)/\∀i (h:i<xs.size),pS xs j fuel lo hi<=i->j<=xs[i]
 |0,lo,hi,h1,h2,h3,h4,h5=>by
  have:lo=hi:=by omega
  subst this;exact⟨h2,h4,h5⟩
 |fuel+1,lo,hi,h1,h2,h3,h4,h5=>by
  have mono:∀(a b:Nat) (ha:a<xs.size) (hb:b<xs.size),a<=b->xs[a]<=xs[b]:=fun a b ha hb hab=>by
   by_cases e:a=b
   ·subst e;exact ao _
   ·have:=tW.mp hr a b (by rw[aI];exact ha) (by rw[aI];exact hb) (by omega);rw[eY,eY]at this;omega
  unfold pS;by_cases e:lo<hi
  ·rw[if_pos e];have hm:(lo+hi)/2<xs.size:=by omega
   show(if xs.getD ((lo+hi)/2) j<j then _ else _)<=_/\_;have hg:xs.getD ((lo+hi)/2) j=xs[(lo+hi)/2]:=by rw[c8,cW hm];rfl
   by_cases q:xs.getD ((lo+hi)/2) j<j
   ·dsimp only;rw[if_pos q];rw[hg]at q;exact Hv hr j fuel _ _ (by omega) h2 (by omega) (fun i vV hl=>YH (mono i _ vV hm (by omega)) q) h5
   ·dsimp only;rw[if_neg q];rw[hg]at q;exact Hv hr j fuel _ _ (by omega) (by omega) (by omega) h4 (fun i vV hl=>bN (Nat.not_lt.mp q) (mono _ i hm vV hl))
  ·rw[if_neg e];have:lo=hi:=by omega
   subst this;exact⟨h2,h4,h5⟩
theorem vh{xs:Array Nat}(hr:xs.toList.Pairwise (· < ·))(j:Nat):bM xs j<=xs.size/\(∀i (h:i<xs.size),i<bM xs j->xs[i]<j)/\∀i (h:i<xs.size),bM xs j<=i->j<=xs[i]:=
 Hv hr j xs.size 0 xs.size (bK _) (ao _) (by omega) (fun i _ h=>absurd h (fc _)) (fun i h h'=>absurd h' (by omega))
theorem U0{xs:Array Nat}(hr:xs.toList.Pairwise (· < ·)){j:Nat}(h:j∈xs.toList):xs[bM xs j]? =some j:=by
 obtain⟨h1,h2,h3⟩:=vh hr j;obtain⟨i,hi,e⟩:=lZ h;rw[aI]at hi;rw[eY]at e;have l1:bM xs j<=i:=by
  apply bZ
  intro q;have:=h2 i hi (by omega);omega
 have hb:bM xs j<xs.size:=by omega
 have h4:=h3 _ hb (ao _);by_cases q:bM xs j=i
 ·rw[q,cW hi,e]
 ·have:=tW.mp hr _ i (by rw[aI];exact hb) (by rw[aI];exact hi) (by omega);rw[eY,eY]at this;omega
theorem Wq{xs:Array Nat}{m:Nat}(hr:QK xs.toList m){j:Nat}(hj:j∉xs.toList)(hm:j<=m):QK (dU xs (bM xs j) j).toList m:=by
 obtain⟨h1,h2,h3⟩:=vh hr.1 j;rw[SetTable.toList_insertAt];have tk:∀x∈xs.toList.take (bM xs j),x<j:=fun x hx=>by
  obtain⟨i,hi,e⟩:=lZ hx;rw[bt,aI]at hi;rw[List.getElem_take,eY]at e;rw[<-e];exact h2 i (by omega) (by omega)
 have dr:∀x∈xs.toList.drop (bM xs j),j<x:=fun x hx=>by
  obtain⟨i,hi,e⟩:=lZ hx;rw[jI,aI]at hi;rw[List.getElem_drop,eY]at e;have:=h3 (bM xs j+i) (by omega) (by omega);rw[e]at this;have ne:j≠x:=fun q=>hj (by rw[q];exact zH hx)
  omega
 refine⟨?_,fun x hx=>?_⟩
 ·rw[ji];refine⟨hr.1.sublist (YJ _ _),B8.mpr ⟨dr,hr.1.sublist (YK _ _)⟩,fun a ha b hb=>?_⟩;rcases aM.mp hb with rfl|hb
  ·exact tk a ha
  ·exact E1 (tk a ha) (dr b hb)
 ·rcases aH.mp hx with hx|hx
  ·exact hr.2 x (p6 hx)
  ·rcases aM.mp hx with rfl|hx
   ·exact hm
   ·exact hr.2 x (zH hx)
theorem qH{α:Type}(xs:Array α)(p:Nat):(eF xs p).toList=xs.toList.take p++xs.toList.drop (p+1):=by
 simp[eF,List.extract_eq_take_drop,og]
theorem JB{α:Type}(xs:Array α)(p:Nat):(eF xs p).toList.Sublist xs.toList:=by
 rw[qH];have:=List.Sublist.append (List.Sublist.refl (xs.toList.take p)) (show(xs.toList.drop (p+1)).Sublist (xs.toList.drop p)from by rw[<-List.drop_drop];exact YK _ _);rw[yL]at this;exact this
theorem Pw{xs:Array Nat}{m:Nat}(hr:QK xs.toList m)(p:Nat):QK (eF xs p).toList m:=
 ⟨hr.1.sublist (JB xs p),fun x hx=>hr.2 x ((JB xs p).subset hx)⟩
theorem tz{α:Type}(xs:Array α)(p:Nat)(x:α):(dU xs p x).size=xs.size+1:=by
 rw[<-aI,(JR xs p x).length_eq,aI,Array.size_push]
theorem uS{α:Type}(xs:Array α){p:Nat}(h:p<xs.size):(eF xs p).size=xs.size-1:=by
 rw[<-aI,qH,ai,bt,jI,aI];omega
structure Clean(t:dA):Prop where
 pow:∃k,t.mask+1=2^k
 rise:QK t.place.toList t.mask
 nod:t.dummies=#[]
 room:t.place.size<=t.mask
theorem Pn{t:dA}(h:Clean t)(j:Nat):(j∉t.place.toList/\t.slot j=.empty)\/(j∈t.place.toList/\∃i,t.slot j=.live i):=by
 unfold SetTable.slot;dsimp only;by_cases e:j∈t.place.toList
 ·refine .inr ⟨e,bM t.place j,?_⟩;rw[U0 h.rise.1 e];exact if_pos (by simp)
 ·refine .inl ⟨e,?_⟩;rw[if_neg (fun q=>by
   have q:=beq_iff_eq.mp q;rw[<-gM]at q;exact e (bC q)),h.nod]
  rfl
theorem Ob{t:dA}(h:Clean t):∃j,j<=t.mask/\j∉t.place.toList:=by
 apply bZ
 intro no;have full:∀j,j<=t.mask->j∈t.place.toList:=fun j hj=>bZ fun q=>no ⟨j,hj,q⟩
 have p:=Ma.o9 (a:=t.place.toList) (b:=aG (t.mask+1)) (h.rise.1.imp fun h=>bE h) vP fun x=>by
  rw[bG];exact⟨fun hx=>by have:=h.rise.2 x hx;omega,fun hx=>full x (by omega)⟩
 have:=p.length_eq;rw[ba,aI]at this;have:=h.room;omega
theorem Gp{t:dA}(c:Clean t)(h:Int):∀(fuel:Nat) (p:SetTable.Probe) (L n:Nat),p.dummy=none->n<=L->(n=0->p.j=p.i)->(pj t.mask n (p.i,p.perturb)).1∉t.place.toList->p.more+1+10*L<=fuel->
  ∃j,Im t (fun _=>h+1) h fuel p=some (.empty j none)/\j∉t.place.toList/\(p.j+p.more<=t.mask->j<=t.mask)
 |0,p,L,n,_,_,_,_,hf=>by omega
 |fuel+1,p,L,n,hd,hn,h0,he,hf=>by
  unfold Im;rcases Pn c p.j with ⟨q1,q2⟩|⟨q1,i,q2⟩
  ·rw[q2];exact⟨p.j,by rw[hd],q1,fun _=>by omega⟩
  ·rw[q2];dsimp only;rw[if_neg (by rw[beq_iff_eq];omega)];cases n with
   |zero=>
    have h0:=h0 rfl;rw[h0]at q1;exact absurd q1 he
   |succ n=>
    unfold SetTable.advance;by_cases hm:p.more>0
    ·rw[if_pos hm];obtain⟨j,a1,a2,a3⟩:=Gp c h fuel {p with j:=p.j+1,more:=p.more-1} L (n+1) hd hn (fun q=>by omega) he (by show p.more-1+1+10*L<=fuel;omega);exact⟨j,a1,a2,fun q=>a3 (by show p.j+1+(p.more-1)<=t.mask;omega)⟩
    ·rw[if_neg hm];have hl:(iz t.mask p.i p.perturb).1<=t.mask:=by
      unfold iz;exact Iv.mp (iX _ (QX _))
     have Se:(pj t.mask n (iz t.mask p.i p.perturb)).1∉t.place.toList:=he;generalize iz t.mask p.i p.perturb=s at hl Se⊢;obtain⟨i',p'⟩:=s;have re:dO t.mask i'-i'<=9:=by unfold dO;split<;>omega
     have rm:i'+(dO t.mask i'-i')<=t.mask:=by
      have hl:i'<=t.mask:=hl;unfold dO;split<;>omega
     obtain⟨j,a1,a2,a3⟩:=Gp c h fuel {p with j:=i',more:=dO t.mask i'-i',i:=i',perturb:=p'} (L-1) n hd (by omega) (fun _=>rfl) Se (by show dO t.mask i'-i'+1+10*(L-1)<=fuel;omega);exact⟨j,a1,a2,fun _=>a3 rm⟩
theorem Hd{t:dA}(c:Clean t)(h:Int):∃j,t.freeSlot h=some (j,false)/\j<=t.mask/\j∉t.place.toList:=by
 obtain⟨k,hk⟩:=c.pow;obtain⟨j0,hj0,hn⟩:=Ob c;have hi:cQ h %(t.mask+1)<=t.mask:=Iv.mp (iX _ (QX _));obtain⟨n,h1,h2⟩:=Ji hk (i:=cQ h %(t.mask+1)) (SD h) hj0;have re:dO t.mask (cQ h %(t.mask+1))-cQ h %(t.mask+1)<=9:=by unfold dO;split<;>omega
 have rm:cQ h %(t.mask+1)+(dO t.mask (cQ h %(t.mask+1))-cQ h %(t.mask+1))<=t.mask:=by
  unfold dO;split<;>omega
 obtain⟨j,a1,a2,a3⟩:=Gp c h (10*ko t.mask) (t.probeStart h) (t.mask+13) n rfl h1 (fun _=>rfl) (by
   show(pj t.mask n (cQ h %(t.mask+1),cQ h)).1∉_;rw[h2];exact hn) (by
   show dO t.mask (cQ h %(t.mask+1))-cQ h %(t.mask+1)+1+10*(t.mask+13)<=10*ko t.mask;unfold ko;omega)
 refine⟨j,?_,a3 rm,a2⟩;unfold SetTable.freeSlot SetTable.probe;rw[a1];rfl
theorem AR(n:Nat):∀(fuel k:Nat),n<2^(k+fuel)->∃k',k<=k'/\BV n fuel (2^k)=2^k'/\n<2^k'/\(k'=k\/2^k'<=2*n)
 |0,k,h=>⟨k,ao _,rfl,h,.inl rfl⟩
 |fuel+1,k,h=>by
  unfold BV;by_cases e:2^k<=n
  ·rw[if_pos e,<-yi];obtain⟨k',h1,h2,h3,h4⟩:=AR n fuel (k+1) (by rw[Di];exact h);refine⟨k',by omega,h2,h3,.inr ?_⟩;rcases h4 with h4|h4
   ·rw[h4,yi];omega
   ·exact h4
  ·rw[if_neg e];exact⟨k,ao _,rfl,by omega,.inl rfl⟩
theorem AQ{n:Nat}(h:n<2^60):∃k,jD n=2^k/\n<2^k/\8<=2^k/\2^k<=8+2*n:=by
 obtain⟨k,h1,h2,h3,h4⟩:=AR n 64 3 (E1 h (by decide));refine⟨k,h2,h3,?_,?_⟩
 ·exact Nat.pow_le_pow_right (by decide) h1 (n:=2)
 ·rcases h4 with h4|h4
  ·rw[h4];omega
  ·omega
def uI(w:bQ):Bool:=w.params.followText "set-order"
def gA(es:Array (Int×aj))(ep:Nat)(t:dA):Obj:={cls:=.type "set",dict:=none,data:=.set es ep t,slots:=#[]}
theorem qA{t:dA}{n:Nat}:t.fits n=true↔t.place.size=n/\t.place.size+t.dummies.size<=t.mask:=by
 unfold SetTable.fits HN;rw[aE,beq_iff_eq,decide_eq_true_eq]
structure TL(w:bQ)(t:dA)(n:Nat):Prop where
 pow:∃k,t.mask+1=2^k
 rise:QK t.place.toList t.mask
 fits:t.fits n=true
 led:t.led=!uI w
 plain:t.plain=true
structure U5(w:bQ)(t:dA)(n:Nat):Prop where
 tl:TL w t n
 nod:t.dummies=#[]
 low:n*5<t.mask*3
theorem TL.sz{w:bQ}{t:dA}{n:Nat}(h:TL w t n):t.place.size=n:=(qA.mp h.fits).1
theorem U5.clean{w:bQ}{t:dA}{n:Nat}(h:U5 w t n):Clean t:=⟨h.tl.pow,h.tl.rise,h.nod,by rw[h.tl.sz];have:=h.low;omega⟩
theorem FT(w:bQ):U5 w (.fresh 0 0 (!uI w)) 0:=⟨⟨⟨3,rfl⟩,⟨ym,fun x hx=>by cases hx⟩,rfl,rfl,rfl⟩,rfl,by show 0<7*3;decide⟩
theorem abX{w:bQ}{t:dA}{es:Array (Int×aj)}(h:U5 w t es.size)(hh:Int)(x:aj):∃es' t',layNew t es hh x=(es',t',false,false)/\TL w t' es'.size/\t'.dummies=#[]/\es'.size=es.size+1/\es'.toList.Perm (es.toList++[(hh,x)]):=by
 obtain⟨j,h1,h2,h3⟩:=Hd h.clean hh;have sz:=h.tl.sz;have K0:t.put j=({t with place:=dU t.place (bM t.place j) j,dummies:=#[]},bM t.place j):=by
  unfold SetTable.put;rw[h.nod];rfl
 have s1:(dU es (bM t.place j) (hh,x)).size=es.size+1:=tz _ _ _;have f1:({t with place:=dU t.place (bM t.place j) j,dummies:=#[]}:dA).fits (es.size+1)=true:=by
  have:=h.low;have e:(dU t.place (bM t.place j) j).size=es.size+1:=by rw[tz,sz]
  exact qA.mpr ⟨e,by show(dU t.place (bM t.place j) j).size+0<=t.mask;omega⟩
 refine⟨dU es (bM t.place j) (hh,x),{t with place:=dU t.place (bM t.place j) j,dummies:=#[]},?_,⟨h.tl.pow,Wq h.tl.rise h3 h2,by rw[s1];exact f1,h.tl.led,h.tl.plain⟩,rfl,s1,?_⟩
 ·unfold layNew;rw[h1];dsimp only;rw[K0];dsimp only;rw[s1];unfold SetTable.orStandIn;rw[f1];rfl
 ·have:=JR es (bM t.place j) (hh,x);rw[VC]at this;exact this
theorem zX{es:Array (Int×aj)}{order:Array Nat}(h:order.toList.Perm (aG es.size)):(order.filterMap (es[·]?)).toList.Perm es.toList:=by
 rw[Array.toList_filterMap];exact(h.filterMap _).trans (by rw[filterMap_getElem?_range])
theorem IB{w:bQ}{t:dA}{n:Nat}(hl:t.led=!uI w)(hp:t.plain=true){es:Array (Int×aj)}{wanted:Nat}(h1:es.size<=wanted)(h2:wanted<2^60):
  ∃t' order,t.relaid (es.map (·.1)) wanted=some (t',order)/\TL w t' es.size/\t'.dummies=#[]/\wanted<=t'.mask/\order.toList.Perm (aG es.size):=by
 obtain⟨k,e1,e2,e3,e4⟩:=AQ h2;obtain⟨pl,order,a1,a2,a3,a4⟩:=RT (mask:=jD wanted-1) (k:=k) (by omega) t.finger (t.movedTo (jD wanted-1)) t.led t.plain (es.map (·.1)) (by rw[y0];omega);rw[y0]at a3 a4;refine⟨_,order,a1,⟨⟨k,by show jD wanted-1+1=_;omega⟩,a2,?_,hl,hp⟩,rfl,by show wanted<=jD wanted-1;omega,a4⟩;exact qA.mpr ⟨a3,by show pl.size+0<=jD wanted-1;omega⟩
theorem Wr{w:bQ}{t:dA}(hl:t.led=!uI w)(hp:t.plain=true){es:Array (Int×aj)}(h0:0<es.size)(h2:es.size<=50000):
  ∃es' t',relayAll t es (mH es.size)=(es',t',false)/\U5 w t' es'.size/\es'.toList.Perm es.toList:=by
 have hg:mH es.size=es.size*4:=by unfold mH;rw[if_neg (by omega)]
 obtain⟨t',order,a1,a2,a3,a4,a5⟩:=IB (n:=0) hl hp (es:=es) (wanted:=mH es.size) (by omega) (by rw[hg];omega);have p:=zX a5;have sz:(order.filterMap (es[·]?)).size=es.size:=by rw[<-aI,p.length_eq,aI]
 refine⟨order.filterMap (es[·]?),t',?_,⟨by rw[sz];exact a2,a3,by rw[sz];omega⟩,p⟩;unfold relayAll;rw[a1];dsimp only;rw[if_pos];rw[aE];exact⟨by unfold coversAll;exact List.isPerm_iff.mpr a5,by rw[sz];exact a2.fits⟩
section
variable {prog:bw} {w:bQ} {A:cR} {E:aj->au->Prop} {s:au}
abbrev IK(prog:bw)(w:bQ):=intKind prog w
theorem Cw{h:Heap}{a:Addr}{es es':Array (Int×aj)}{ep:Nat}{t t':dA}(ho:h.get? a=some (gA es ep t)):(h.update a (Obj.putSet es' t')).get? a=some (gA es' (ep+1) t'):=by
 have:=Heap.get?_update_self (Obj.putSet es' t') ho (by rw[putSet_of es' t' rfl];rfl);rw[putSet_of es' t' rfl]at this;exact this
theorem VI{a:Addr}{es:Array (Int×aj)}{ep:Nat}{t:dA}{k:Int}{x:aj}{Q:Bool->au->Prop}(ho:s.heap.get? a=some (gA es ep t))(hT:U5 w t es.size)(YU:Io (IK prog w) es.toList)(hk:(IK prog w).is k x=true)(hx:x.scannable=true)(Jr:plainKind x=true)(hb:es.size+1<scanBound)
  (h:∀h' es' rM t',Heap.SameBut a s.heap h'->h'.get? a=some (gA es' rM t')->U5 w t' es'.size->es'.toList.Perm (if (es.toList.any fun e=>(IK prog w).is k e.2)=true then es.toList else es.toList++[((IK prog w).hash k,x)])->∀b,Q b {s with heap:=h'}):
  wpAny (model prog w) A (setAddHashed a x ((IK prog w).hash k)) Q E s:=by
 have hd:(gA es ep t).data=.set es ep t:=rfl;unfold setAddHashed setAddHashedIn;refine fq (ag (wpAny_setState_of ho hd hT.tl.fits ?_));dsimp only;rw[byScan_of hx (by omega) YU];simp only[↓reduceIte];unfold setAddByScan;refine ag ?_;refine ag (QQ ?_);refine ag (wpAny_setScan_of hk ho hd hT.tl.fits YU ?_);cases hr:es.toList.findIdx? fun e=>(IK prog w).is k e.2 with
 |some j=>
  obtain⟨hj,hpj,_⟩:=nO.mp hr;have adh:(es.toList.any fun e=>(IK prog w).is k e.2)=true:=dg.mpr ⟨_,df hj,hpj⟩;refine aD (aD ?_);have e:s={s with heap:=s.heap}:=by cases s;rfl
  rw[e];exact h s.heap es ep t (Heap.SameBut.refl a s.heap) ho hT (by rw[if_pos adh]) _
 |none=>
  have adh:¬(es.toList.any fun e=>(IK prog w).is k e.2)=true:=fun q=>by
   obtain⟨e,he,hp⟩:=dg.mp q;have:=LM.mp hr e he;rw[hp]at this;cases this
  rw[if_neg adh]at h;obtain⟨Vr,t1,e1,T1,d1,s1,p1⟩:=abX hT ((IK prog w).hash k) x;dsimp only;rw[e1];dsimp only;refine ag (aD ?_);rw[if_pos T1.plain];refine ag ?_;rw[hashByValue_scannable 8 hx,Jr];refine aD ?_;simp only[↓reduceIte];have hsb:=Heap.SameBut.update s.heap a (Obj.putSet Vr t1);have ho1:=Cw (es':=Vr) (t':=t1) ho;refine ag (lE ho hd ?_ (lH (by omega)));by_cases q:t1.tooFull=true
  ·rw[if_pos (by rw[q];rfl)];obtain⟨Vq,t2,e2,T2,p2⟩:=Wr T1.led T1.plain (es:=Vr) (by omega) (by have:scanBound=4096:=rfl;omega);have s2:Vq.size=Vr.size:=by rw[<-aI,p2.length_eq,aI]
   rw[e2];dsimp only;refine ag (aD ?_);refine ag (lE (s:={s with heap:=s.heap.update a (Obj.putSet Vr t1)}) ho1 rfl ?_ (lH (by omega)));refine aD (aD ?_);exact h _ Vq _ t2 (hsb.trans (Heap.SameBut.update _ a _)) (Cw ho1) T2 (p2.trans p1) _
  ·rw[if_neg (by rw[dX _ |>.mp q];decide)];refine aD (aD ?_);refine h _ Vr _ t1 hsb ho1 ⟨T1,d1,?_⟩ p1 _;have hf:t1.tooFull=false:=dX _ |>.mp q;unfold SetTable.tooFull HN at hf;rw[decide_eq_false_iff_not,d1,T1.sz]at hf;have:(#[]:Array Nat).size=0:=rfl;omega
end
def vR(e:Int×aj):Int:=match e.2 with
 |.int k _=>k
 |_=>0
section
variable {prog:bw} {w:bQ}
theorem BC{l:List (Int×aj)}(h:Io (IK prog w) l){e:Int×aj}(he:e∈l):∃t,e=((IK prog w).hash (vR e),.int (vR e) t):=by
 obtain⟨⟨k,h1,h2⟩,_⟩:=h e he;obtain⟨t,h3⟩:=Dg h1;obtain⟨a,b⟩:=e;have h3:b=.int k t:=h3;subst h3;exact⟨t,SW h2 rfl⟩
theorem G4{l:List (Int×aj)}(h:Io (IK prog w) l){e:Int×aj}(he:e∈l)(k:Int):(IK prog w).is k e.2=true↔vR e=k:=by
 obtain⟨t,h1⟩:=BC h he;constructor
 ·intro q;obtain⟨t',h2⟩:=Dg q;rw[h1]at h2
  injection h2
 ·intro q;rw[<-q,congrArg SV h1];show tV (vR e) (lB (vR e) t)=true;simp[tV]
theorem JC(k:Int)(t:Vv):(IK prog w).is k (.int k t)=true:=by show tV k (lB k t)=true;simp[tV]
end
structure SG(prog:bw)(w:bQ)(h:Heap)(a:Addr)(ks:List Int)(es:Array (Int×aj))(ep:Nat)(t:dA):Prop where
 at_:h.get? a=some (gA es ep t)
 tl:TL w t es.size
 el:Io (IK prog w) es.toList
 pm:(es.toList.map vR).Perm ks
 nd:ks.Nodup
 le:ks.length<=2000
theorem SG.sz{prog:bw}{w:bQ}{h:Heap}{a:Addr}{ks:List Int}{es:Array (Int×aj)}{ep:Nat}{t:dA}(G:SG prog w h a ks es ep t):es.size=ks.length:=by
 rw[<-G.pm.length_eq,ae,aI]
def LD(prog:bw)(w:bQ)(h:Heap)(a:Addr)(ks:List Int):Prop:=∃es ep t,SG prog w h a ks es ep t
theorem SG.keep{prog:bw}{w:bQ}{h h':Heap}{a:Addr}{ks:List Int}{es:Array (Int×aj)}{ep:Nat}{t:dA}(G:SG prog w h a ks es ep t)(k:∀o,h.get? a=some o->h'.get? a=some o):SG prog w h' a ks es ep t:=⟨k _ G.at_,G.tl,G.el,G.pm,G.nd,G.le⟩
theorem SG.typ{prog:bw}{w:bQ}{s:au}{a:Addr}{ks:List Int}{es:Array (Int×aj)}{ep:Nat}{t:dA}(G:SG prog w s.heap a ks es ep t):s.TypeIs (.ref a) "set" :=⟨_,G.at_,rfl⟩
section
variable {prog:bw} {w:bQ} {A:cR} {E:aj->au->Prop} {s:au} {a:Addr} {ks:List Int} {es:Array (Int×aj)} {ep:Nat} {t:dA}
theorem iM{Q:(Array (Int×aj)×Nat×dA)->au->Prop}(G:SG prog w s.heap a ks es ep t)(h:Q (es,ep,t) s):wpAny (model prog w) A (setState a) Q E s:=wpAny_setState_of G.at_ rfl G.tl.fits h
theorem AI{Q:Nat->au->Prop}(G:SG prog w s.heap a ks es ep t)(h:Q es.size s):wpAny (model prog w) A (Ax a) Q E s:=by
 unfold Ax setEntries;exact ag (ag (iM G (aD (aD h))))
theorem AJ{Q:Nat->au->Prop}(G:SG prog w s.heap a ks es ep t)(h:Q ep s):wpAny (model prog w) A (setEpoch a) Q E s:=wpAny_setEpoch_of G.at_ rfl G.tl.fits h
theorem Q2{Q:Option Nat->au->Prop}{k:Int}{x:aj}(hk:(IK prog w).is k x=true)(hx:x.scannable=true)(G:SG prog w s.heap a ks es ep t)
  (h:Q (es.toList.findIdx? fun e=>(IK prog w).is k e.2) s):wpAny (model prog w) A (setFind a x ((IK prog w).hash k)) Q E s:=by
 unfold setFind setFindIn;refine ag (iM G ?_);dsimp only;rw[byScan_of hx (by have:=G.sz;have:=G.le;have:scanBound=4096:=rfl;omega) G.el];simp only[↓reduceIte];refine ag (QQ ?_);refine ag (wpAny_setScan_of hk G.at_ rfl G.tl.fits G.el ?_);cases hr:es.toList.findIdx? fun e=>(IK prog w).is k e.2 with
 |none=>rw[hr]at h;exact aD h
 |some j=>rw[hr]at h;dsimp only;rw[oN];exact aD h
theorem NQ{k:Int}(G:SG prog w s.heap a ks es ep t):(es.toList.findIdx? fun e=>(IK prog w).is k e.2).isSome=decide (k∈ks):=by
 have:k∈ks↔∃e∈es.toList,(IK prog w).is k e.2=true:=by
  rw[<-G.pm.mem_iff,bh];constructor
  ·rintro⟨e,h1,h2⟩;exact⟨e,h1,(G4 G.el h1 k).mpr h2⟩
  ·rintro⟨e,h1,h2⟩;exact⟨e,h1,(G4 G.el h1 k).mp h2⟩
 cases hr:es.toList.findIdx? fun e=>(IK prog w).is k e.2 with
 |none=>
  rw[SX,eq_comm,decide_eq_false_iff_not,this];rintro⟨e,h1,h2⟩;have:=LM.mp hr e h1;rw[h2]at this;cases this
 |some j=>
  obtain⟨hj,hp,_⟩:=nO.mp hr;rw[rJ,eq_comm,decide_eq_true_iff,this];exact⟨_,df hj,hp⟩
theorem Ao{α:Type}:∀(l:List α) (i:Nat) (h:i<l.length),(l[i]::l.eraseIdx i).Perm l
 |[],i,h=>absurd h (fc _)
 |x::l,0,h=>v8 _
 |x::l,i+1,h=>by
  have h':i<l.length:=by simpa using h
  show(l[i]::x::l.eraseIdx i).Perm (x::l);exact(List.Perm.swap _ _ _).trans (List.Perm.cons _ (Ao l i h'))
theorem RD{α:Type}(next:Nat->Nat):∀(fuel k:Nat) (left:List α) (out:Array α),left.length=fuel->(Ik next fuel k left out).toList.Perm (out.toList++left)
 |0,k,left,out,h=>by
  rw[jH.mp h];unfold Ik;rw[cV]
 |fuel+1,k,left,out,h=>by
  unfold Ik;have hl:next k %left.length<left.length:=iX _ (by omega);rw[aB hl];dsimp only;have ih:=RD next fuel (k+1) (left.eraseIdx (next k %left.length)) (out.push left[next k %left.length]) (by rw[List.length_eraseIdx_of_lt hl];omega);refine ih.trans ?_;rw[VC,dF];refine List.Perm.append_left _ ?_;show(left[next k %left.length]::left.eraseIdx (next k %left.length)).Perm left;exact Ao _ _ hl
theorem IZ{α:Type}(next:Nat->Nat)(xs:Array α):(pickOrder next xs).toList.Perm xs.toList:=by
 unfold pickOrder;have:=RD next xs.size 0 xs.toList #[] aI
 simpa using this
theorem O3{Q:Array (Int×aj)->au->Prop}(G:SG prog w s.heap a ks es ep t)(h:∀xs:Array (Int×aj),xs.toList.Perm es.toList->Q xs s):wpAny (model prog w) A (setWalk a) Q E s:=by
 unfold setWalk setsByText;refine ag (iM G ?_);dsimp only;refine ag (ag (ie (aD ?_)));refine jA (fun e=>ag (ie (aD (h _ (IZ _ es))))) (fun e=>?_);have e:¬w.params.followText "set-order" =true:=e;have hl:t.led=true:=by rw[G.tl.led];unfold uI;rw[dX _ |>.mp e];rfl
 show wpAny _ _ (if (!t.plain&&decide (es.size>1))=true then _ else _) _ _ _;rw[if_neg (by rw[G.tl.plain];simp)];refine ag ?_;show wpAny _ _ (if (!t.led&&decide (es.size>1))=true then _ else _) _ _ _;rw[if_neg (by rw[hl];simp)];exact aD (aD (h es (v8 _)))
theorem wp_walk{Q:Array (Int×aj)->au->Prop}{others:List Addr}{filled:Option Addr}(G:SG prog w s.heap a ks es ep t)(h:∀xs:Array (Int×aj),xs.toList.Perm es.toList->Q xs s):wpAny (model prog w) A (setWalkUnseen a others filled) Q E s:=by
 unfold setWalkUnseen;refine ag (iM G ?_);dsimp only;unfold setsByText;refine ag (ag (ie (aD ?_)));rw[if_pos]
 ·exact O3 G h
 ·rw[G.tl.led,G.tl.plain];unfold uI;show(w.params.followText "set-order" ||(!w.params.followText "set-order")&&true||_)=true;cases w.params.followText "set-order" <;>rfl
theorem VF{Q:aj->au->Prop}(h:Q (.ref s.heap.objs.size) {s with heap:=s.heap.push (gA #[] 0 (.fresh 0 0 (!uI w)))}):wpAny (model prog w) A (newSet (.type "set")) Q E s:=by
 unfold newSet setsByText;refine ag (ag (ie (aD ?_)));dsimp only;simp only[newObj];exact ag (wpAny_alloc (aD h))
theorem Po{h:Heap}:SG prog w (h.push (gA #[] 0 (.fresh 0 0 (!uI w)))) h.objs.size [] #[] 0 (.fresh 0 0 (!uI w)):=
 ⟨Heap.get?_push_size _ rfl,(FT w).tl,(fun e he=>by cases he),v8 _,eI,bK _⟩
theorem Q4{Q:Bool->au->Prop}{k:Int}{tk:Vv}(G:SG prog w s.heap a ks es ep t)(T:U5 w t es.size)(hk:k∉ks)(hb:ks.length+1<=2000)
  (h:∀h' es' rM t',Heap.SameBut a s.heap h'->SG prog w h' a (ks++[k]) es' rM t'->U5 w t' es'.size->∀b,Q b {s with heap:=h'}):
  wpAny (model prog w) A (setAddHashed a (.int k tk) ((IK prog w).hash k)) Q E s:=by
 have no:¬(es.toList.any fun e=>(IK prog w).is k e.2)=true:=fun q=>by
  obtain⟨e,h1,h2⟩:=dg.mp q;exact hk (G.pm.mem_iff.mp (bh.mpr ⟨e,h1,(G4 G.el h1 k).mp h2⟩))
 refine VI G.at_ T G.el (JC k tk) rfl rfl (by have:=G.sz;have:scanBound=4096:=rfl;omega) fun h' es' rM t' sb ho T' p b=>?_
 rw[if_neg no]at p;refine h h' es' rM t' sb ⟨ho,T'.tl,(G.el.push (JC k tk) rfl).perm p,?_,?_,by rw[ai];exact hb⟩ T' b
 ·refine(p.map vR).trans ?_;rw[aF];exact G.pm.append_right _
 ·rw[gw];exact⟨G.nd,by simp,fun x hx y hy e=>hk (by rw[aN.mp hy]at e;rw[<-e];exact hx)⟩
end
section
variable {prog:bw} {w:bQ} {A:cR} {E:aj->au->Prop} {s:au} {a:Addr} {ks:List Int} {es:Array (Int×aj)} {ep:Nat} {t:dA}
theorem EJ{ks:List Int}{k:Int}(h:ks.Nodup)(hk:k∈ks):(k::ks.filter fun x=>decide (x≠k)).Perm ks:=by
 rw[rH];intro x;rw[mG];by_cases e:x=k
 ·subst e;rw[if_pos (by simp),dJ.mpr (fun q=>by have:=(dm.mp q).2;simp at this)];have h1:=fY.mp h x;have h2:=cU.mpr hk;omega
 ·rw[if_neg (by simp[bT e]),Em (by simp[e])];omega
theorem O4{Q:Bool->au->Prop}{k:Int}{tk:Vv}(G:SG prog w s.heap a ks es ep t)
  (h:∀h' es' rM t',Heap.SameBut a s.heap h'->SG prog w h' a (ks.filter fun x=>decide (x≠k)) es' rM t'->∀b,Q b {s with heap:=h'}):
  wpAny (model prog w) A (setDiscardHashed a (.int k tk) ((IK prog w).hash k)) Q E s:=by
 unfold setDiscardHashed;refine ag (Q2 (JC k tk) rfl G ?_);have fm:=NQ (k:=k) G;cases hr:es.toList.findIdx? fun e=>(IK prog w).is k e.2 with
 |none=>
  rw[hr,SX,eq_comm,decide_eq_false_iff_not]at fm;refine aD ?_;have e:s={s with heap:=s.heap}:=by cases s;rfl
  rw[e];have ef:(ks.filter fun x=>decide (x≠k))=ks:=Vj.mpr fun x hx=>decide_eq_true fun q=>fm (q▸hx)
  exact h s.heap es ep t (Heap.SameBut.refl _ _) (by rw[ef];exact G) _
 |some i=>
  rw[hr,rJ,eq_comm,decide_eq_true_iff]at fm;obtain⟨hi,hp,_⟩:=nO.mp hr;have ki:=(G4 G.el (df hi) k).mp hp;have vV:i<es.size:=by rw[aI]at hi;exact hi
  have f:=qA.mp G.tl.fits;have K1:i<t.place.size:=by rw[f.1];exact vV
  have xw:t.drop i={t with place:=eF t.place i,dummies:=dU t.dummies (bM t.dummies t.place[i]) t.place[i]}:=by
   unfold SetTable.drop;rw[cW K1]
  have ee:(eF es i).toList=es.toList.eraseIdx i:=by rw[qH,List.eraseIdx_eq_take_drop_succ]
  have pe:=Ao es.toList i hi;have se:(eF es i).size=es.size-1:=uS es vV;refine ag (iM G ?_);dsimp only;refine ag (lE G.at_ rfl ?_ (lH (by have:=G.sz;have:=G.le;have:scanBound=4096:=rfl;omega)));refine ag (wpAny_point ?_);refine aD ?_;rw[xw];refine h _ (eF es i) (ep+1) {t with place:=eF t.place i,dummies:=dU t.dummies (bM t.dummies t.place[i]) t.place[i]} (Heap.SameBut.update _ _ _) ⟨Cw G.at_,⟨G.tl.pow,Pw G.tl.rise i,?_,G.tl.led,G.tl.plain⟩,?_,?_,G.nd.filter _,bN (kq _ _) G.le⟩ _
  ·refine qA.mpr ⟨by show(eF t.place i).size=_;rw[uS _ K1,se,f.1],?_⟩;show(eF t.place i).size+(dU t.dummies _ _).size<=t.mask;rw[uS _ K1,tz];omega
  ·intro e he;rw[ee]at he;exact G.el e (pe.mem_iff.mp (aA _ he))
  ·rw[ee];have p1:=(pe.map vR).trans (G.pm.trans (EJ G.nd fm).symm);rw[bo,ki]at p1;exact p1.cons_inv
theorem wA:1000000<=sizeLine:=by rw[sizeLine_eq];decide
theorem L9{Q:Unit->au->Prop}{wanted:Nat}(G:SG prog w s.heap a ks es ep t)(h1:es.size<=wanted)(h2:wanted<=100000)
  (h:∀h' es' rM t',Heap.SameBut a s.heap h'->SG prog w h' a ks es' rM t'->t'.dummies=#[]->wanted<=t'.mask->Q () {s with heap:=h'}):
  wpAny (model prog w) A (setRelay a wanted) Q E s:=by
 unfold setRelay;refine ag (iM G ?_);dsimp only;obtain⟨k,e1,e2,e3,e4⟩:=AQ (n:=wanted) (by omega);rw[if_neg (by have:=wA;omega)];obtain⟨t',order,a1,a2,a3,a4,a5⟩:=IB (n:=0) G.tl.led G.tl.plain (es:=es) h1 (show wanted<2^60 by omega);have p:=zX a5;have sz:(order.filterMap (es[·]?)).size=es.size:=by rw[<-aI,p.length_eq,aI]
 rw[a1];refine ag (show wpAny _ _ (if ((order.filterMap (es[·]?)).size != es.size)=true then _ else _) _ _ _ from ?_);rw[if_neg (by rw[sz];simp)];refine aD ?_;dsimp only;refine lE G.at_ rfl ?_ (lH (by have:=G.sz;have:=G.le;have:scanBound=4096:=rfl;omega));exact h _ _ _ t' (Heap.SameBut.update _ _ _) ⟨Cw G.at_,by rw[sz];exact a2,G.el.perm p,(p.map vR).trans G.pm,G.nd,G.le⟩ a3 a4
theorem Za{Q:Unit->au->Prop}(G:SG prog w s.heap a ks es ep t)
  (h:∀h' es' rM t',Heap.SameBut a s.heap h'->SG prog w h' a ks es' rM t'->Q () {s with heap:=h'}):
  wpAny (model prog w) A (setTidy a) Q E s:=by
 unfold setTidy;refine ag (iM G ?_);dsimp only;have:=G.sz;have:=G.le;have hg:mH es.size=es.size*4:=by unfold mH;rw[if_neg (by omega)]
 refine jA (fun _=>L9 G (by omega) (by omega) fun h' es' rM t' sb G' _ _=>h h' es' rM t' sb G') (fun _=>?_);have e:s={s with heap:=s.heap}:=by cases s;rfl
 refine aD ?_;rw[e];exact h s.heap es ep t (Heap.SameBut.refl _ _) G
theorem VH{Q:Unit->au->Prop}{r:Addr}(Gr:SG prog w s.heap r [] #[] 0 (.fresh 0 0 (!uI w)))(G:SG prog w s.heap a ks es ep t)(j1:r≠a)
  (h:∀h' es' rM t',Heap.SameBut r s.heap h'->SG prog w h' r ks es' rM t'->Q () {s with heap:=h'}):
  wpAny (model prog w) A (setMerge r a) Q E s:=by
 unfold setMerge;rw[if_neg (by rw[beq_iff_eq];exact j1)];refine ag (iM G ?_);dsimp only;by_cases e0:es.isEmpty=true
 ·rw[if_pos e0];have hz:es.size=0:=by rw[Dj]at e0;rw[e0];rfl
  have kz:ks=[]:=jH.mp (by rw[<-G.sz];exact hz);refine aD ?_;have e:s={s with heap:=s.heap}:=by cases s;rfl
  rw[e];subst kz;exact h s.heap _ _ _ (Heap.SameBut.refl _ _) Gr
 ·rw[if_neg e0];have Uv:0<es.size:=by
   rw[Dj]at e0;cases e:es.size with
   |zero=>exact absurd (E7 e) e0
   |succ n=>omega
  have hle:=G.le;have hsz:=G.sz;have rest:∀ {s1:au} {ep1:Nat} {ts:dA},Heap.SameBut r s.heap s1.heap->s1={s with heap:=s1.heap}->SG prog w s1.heap r [] #[] ep1 ts->ts.dummies=#[]->es.size<=ts.mask->
    wpAny (model prog w) A (do
     let (_,_,ts)<-setState r
     match ts.road t with
     |.slotForSlot=>storeSet r es {t with finger:=ts.finger,led:=ts.led&&t.led,moves:=ts.moves,plain:=ts.plain&&t.plain}
     |.clean=>
      let (es,t)<-(show Sem (Array (Int×aj)×dA)from do
       let some (t,order):=yY ts.mask ts.finger ts.moves (led:=ts.led&&t.led) (plain:=ts.plain&&t.plain) (es.map (·.1))|unsupported "internal:set-table-without-room"
       let es':=order.filterMap (es[·]?)
       if es'.size != es.size then unsupported "internal:set-table-lost-an-element"
       pure (es',t))
      storeSet r es t
     |.oneByOne=>
      for (h,x)in<-setWalkUnseen a [r] (some r) do
       let _<-holding [x] (setAddHashed r x h)
       pure ()
       if (<-setState a).2.1 != ep then unsupported "set.changed-during-merge") Q E s1:=by
   intro s1 ep1 ts sb Vr G1 d1 m1;have hl:(ts.led&&t.led)=!uI w:=by rw[G1.tl.led,G.tl.led,Bool.and_self]
   have hp:(ts.plain&&t.plain)=true:=by rw[G1.tl.plain,G.tl.plain];rfl
   have fz:ts.fill=0:=by unfold HN;rw[G1.tl.sz,d1];rfl
   refine ag (iM G1 ?_);dsimp only;unfold SetTable.road;rw[if_neg (by rw[fz];decide)];by_cases q:(ts.mask==t.mask&&t.dummies.isEmpty)=true
   ·rw[if_pos q];rw[aE,beq_iff_eq,Dj]at q;refine lE G1.at_ rfl ?_ (lH (by have:scanBound=4096:=rfl;omega));rw[Vr];exact h _ _ _ _ (sb.trans (Heap.SameBut.update _ _ _)) ⟨Cw G1.at_,⟨G.tl.pow,G.tl.rise,G.tl.fits,hl,hp⟩,G.el,G.pm,G.nd,G.le⟩
   ·rw[if_neg q];dsimp only;obtain⟨k,hk⟩:=G1.tl.pow;obtain⟨pl,order,a1,a2,a3,a4⟩:=RT hk ts.finger ts.moves (ts.led&&t.led) (ts.plain&&t.plain) (es.map (·.1)) (by rw[y0];omega);rw[y0]at a3 a4;have p:=zX a4;have sz:(order.filterMap (es[·]?)).size=es.size:=by rw[<-aI,p.length_eq,aI]
    rw[a1];refine ag (show wpAny _ _ (if ((order.filterMap (es[·]?)).size != es.size)=true then _ else _) _ _ _ from ?_);rw[if_neg (by rw[sz];simp)];refine aD ?_;dsimp only;refine lE G1.at_ rfl ?_ (lH (by have:scanBound=4096:=rfl;omega));rw[Vr];refine h _ _ _ _ (sb.trans (Heap.SameBut.update _ _ _)) ⟨Cw G1.at_,⟨⟨k,hk⟩,a2,qA.mpr ⟨by show pl.size=_;rw[sz,a3],by show pl.size+0<=ts.mask;omega⟩,hl,hp⟩,G.el.perm p,(p.map vR).trans G.pm,G.nd,G.le⟩
  unfold setRoomFor;refine ag (ag (iM Gr ?_));dsimp only;have es0:s={s with heap:=s.heap}:=by cases s;rfl
  unfold SetTable.roomFor;by_cases q:((Fz 0 0 (!uI w)).fill+es.size)*5≥(Fz 0 0 (!uI w)).mask*3
  ·rw[if_pos q];dsimp only;refine L9 (wanted:=((Fz 0 0 (!uI w)).place.size+es.size)*2) Gr (bK _) (by show(0+es.size)*2<=100000;omega) fun h' es' rM t' sb G' d' m'=>?_
   have hz:es'=#[]:=E7 (by rw[G'.sz];rfl);subst hz;exact rest (s1:={s with heap:=h'}) sb rfl G' d' (by have m':(0+es.size)*2<=t'.mask:=m';omega)
  ·rw[if_neg q];dsimp only;refine aD ?_;exact rest (Heap.SameBut.refl _ _) es0 Gr rfl (by have q:¬(0+es.size)*5≥7*3:=q;show es.size<=7;omega)
end
theorem sub_set_set:isSubtype (.type "set") (.type "set")=pure true:=by rw[QT];kernel_rfl
section
variable {prog:bw} {w:bQ} {A:cR} {E:aj->au->Prop} {s:au} {a b:Addr} {ks ls:List Int} {es eb:Array (Int×aj)} {ep eq:Nat} {t tb:dA}
theorem J4{Q:Bool->au->Prop}(G:SG prog w s.heap a ks es ep t)(h:Q true s):wpAny (model prog w) A (nS (.ref a)) Q E s:=by
 unfold nS;refine ag (m:=isInstance (.ref a) (.type "set")) (rF G.typ sub_set_set ?_);exact aD h
theorem Q3{Q:aj->au->Prop}(G:SG prog w s.heap a ks es ep t)(h:Q (.type "set") s):wpAny (model prog w) A (pG a) Q E s:=by
 unfold pG;exact ag (rF G.typ sub_set_set (aD h))
theorem uO{Q:Unit->au->Prop}{id:String}(G:SG prog w s.heap a ks es ep t)(h:Q () s):wpAny (model prog w) A (nI id a ep) Q E s:=by
 unfold nI;refine ag (AJ G ?_);rw[if_neg (by simp)];exact aD h
theorem GS(l:List Int)(k:Int)(ls:List Int):((l++[k]).filter fun x=>!ls.contains x)=(l.filter fun x=>!ls.contains x)++(if ls.contains k=true then []else [k]):=by
 rw[Cb]
 congr 1
 rw[gW];cases ls.contains k<;>rfl
theorem PK{l m ls:List Int}(h:l.Perm m):(l.filter fun x=>!ls.contains x).Perm (m.filter fun x=>!ls.contains x):=h.filter _
theorem SG.perm{h:Heap}{ms:List Int}(G:SG prog w h a ks es ep t)(p:ks.Perm ms):SG prog w h a ms es ep t:=⟨G.at_,G.tl,G.el,G.pm.trans p,p.nodup_iff.mp G.nd,by rw[<-p.length_eq];exact G.le⟩
theorem Ta{Q:aj->au->Prop}{id:String}(Ga:SG prog w s.heap a ks es ep t)(Gb:SG prog w s.heap b ls eb eq tb)
  (h:∀h',(∀x o,s.heap.get? x=some o->h'.get? x=some o)->LD prog w h' s.heap.objs.size (ks.filter fun k=>!ls.contains k)->Q (.ref s.heap.objs.size) {s with heap:=h'}):
  wpAny (model prog w) A (do
   let result<-newSet (<-pG a)
   let r<-Builtin.Frozenset.addrOf result
   let was<-setEpoch a
   holding [result] do
    for (h,x)in<-setWalkUnseen a [b,r] (some r) do
     holding [x] do
      let there<-do pure (<-setFind b x h).isSome
      if !there then
       let _<-setAddHashed r x h
     nI id a was
   return result) Q E s:=by
 refine ag (Q3 Ga ?_);refine ag (VF ?_);refine ag (aD ?_);have sm:∀x o,s.heap.get? x=some o->(s.heap.push (gA #[] 0 (.fresh 0 0 (!uI w)))).get? x=some o:=fun x o e=>Heap.get?_push_of_some _ e
 have na:a≠s.heap.objs.size:=bE (Heap.lt_size Ga.at_);have nb:b≠s.heap.objs.size:=bE (Heap.lt_size Gb.at_);have G1:=Ga.keep (h':=s.heap.push (gA #[] 0 (.fresh 0 0 (!uI w)))) (sm a);refine ag (AJ (s:={s with heap:=s.heap.push (gA #[] 0 (.fresh 0 0 (!uI w)))}) G1 ?_);refine ag (fq ?_);refine ag (wp_walk (s:={s with heap:=s.heap.push (gA #[] 0 (.fresh 0 0 (!uI w)))}) G1 fun xs px=>?_);have elx:Io (IK prog w) xs.toList:=Ga.el.perm px;have kx:(xs.toList.map vR).Perm ks:=(px.map vR).trans Ga.pm;have ndx:(xs.toList.map vR).Nodup:=kx.nodup_iff.mpr Ga.nd;refine ag (wpAny_forIn_array' _ (fun rest _ s'=>∃done es' rM t',xs.toList=done++rest/\s'={s with heap:=s'.heap}/\Heap.SameBut s.heap.objs.size (s.heap.push (gA #[] 0 (.fresh 0 0 (!uI w)))) s'.heap/\SG prog w s'.heap s.heap.objs.size ((done.map vR).filter fun k=>!ls.contains k) es' rM t'/\U5 w t' es'.size) _ ?_ ?_ xs _ ?_)
 ·rintro x rest _ s1 ⟨done,es',rM,t',hd,G5,sb,Gr,T⟩;have hx:x∈xs.toList:=by rw[hd];exact aH.mpr (.inr ah)
  obtain⟨tk,ex⟩:=BC elx hx;have Ga':SG prog w s1.heap a ks es ep t:=G1.keep fun o e=>by rw[sb.2 a na];exact e
  have Gb':SG prog w s1.heap b ls eb eq tb:=(Gb.keep (h':=s.heap.push (gA #[] 0 (.fresh 0 0 (!uI w)))) (sm b)).keep fun o e=>by rw[sb.2 b nb];exact e
  have lex:(done.map vR).length+1<=2000:=by
   have h1:=kx.length_eq;rw[hd,aF,ai,bo,az]at h1;have:=Ga.le;omega
  have nk:vR x∉done.map vR:=fun q=>by
   rw[hd,aF,bo,gw]at ndx;exact ndx.2.2 _ q _ ah rfl
  obtain⟨hh,v⟩:=x;have e1:hh=(IK prog w).hash (vR (hh,v)):=congrArg Prod.fst ex;have e2:v=.int (vR (hh,v)) tk:=congrArg SV ex;generalize vR (hh,v)=k at*;subst e2;subst e1;dsimp only;refine ag (fq ?_);refine ag (Q2 (JC k tk) rfl Gb' ?_);rw[NQ Gb'];refine ag (aD ?_);have fin:∀ {s2:au} {Vq:Array (Int×aj)} {ep2:Nat} {t2:dA},s2={s with heap:=s2.heap}->Heap.SameBut s.heap.objs.size s1.heap s2.heap->SG prog w s2.heap s.heap.objs.size (((done.map vR)++[k]).filter fun k=>!ls.contains k) Vq ep2 t2->U5 w t2 Vq.size->
    SG prog w s2.heap a ks es ep t/\∃done es' rM t',xs.toList=done++rest/\s2={s with heap:=s2.heap}/\Heap.SameBut s.heap.objs.size (s.heap.push (gA #[] 0 (.fresh 0 0 (!uI w)))) s2.heap/\SG prog w s2.heap s.heap.objs.size ((done.map vR).filter fun k=>!ls.contains k) es' rM t'/\U5 w t' es'.size:=by
   intro s2 Vq ep2 t2 q1 q2 q3 q4;refine⟨Ga'.keep fun o e=>by rw[q2.2 a na];exact e,?_⟩;exact⟨done++[((IK prog w).hash k,.int k tk)],Vq,ep2,t2,by rw[hd,dF];rfl,q1,sb.trans q2,by rw[aF];exact q3,q4⟩
  have ek:ls.contains k=decide (k∈ls):=by rw[aY]
  by_cases q:k∈ls
  ·rw[if_neg (by rw[decide_eq_true q];decide)];refine aD ?_;have:=fin (ep2:=rM) G5 (Heap.SameBut.refl _ _) ?_ T
   ·exact ag (uO this.1 (aD this.2))
   rw[GS,ek,decide_eq_true q,if_pos rfl,cV];exact Gr
  ·rw[if_pos (by rw[decide_eq_false q];rfl)];refine ag (Q4 Gr T (fun z=>nk (dm.mp z).1) (by have:=kq (fun k=>!ls.contains k) (done.map vR);omega) fun h' Vq ep2 t2 YL G2 T2 _=>?_);refine aD ?_;have:=fin (s2:={s1 with heap:=h'}) (ep2:=ep2) (by rw[G5]) YL ?_ T2
   ·exact ag (uO this.1 (aD this.2))
   rw[GS,ek,decide_eq_false q,if_neg (by decide)];exact G2
 ·rintro _ s1 ⟨done,es',rM,t',hd,G5,sb,Gr,T⟩;rw[cV]at hd;refine aD (aD ?_);rw[G5];refine h _ (fun x o e=>?_) ⟨es',rM,t',Gr.perm ?_⟩
  ·rw[sb.2 x (bE (Heap.lt_size e))];exact sm x o e
  ·rw[<-hd];exact PK kx
 ·exact⟨[],#[],0,_,rfl,rfl,Heap.SameBut.refl _ _,Po,FT w⟩
theorem Mb{Q:Unit->au->Prop}{id:String}(Ga:SG prog w s.heap a ks es ep t)(Gb:SG prog w s.heap b ls eb eq tb)(j1:b≠a)(hsz:¬eb.size/8>es.size)
  (h:∀h',Heap.SameBut a s.heap h'->LD prog w h' a (ks.filter fun k=>!ls.contains k)->Q () {s with heap:=h'}):
  wpAny (model prog w) A (uF id a (.ref b)) Q E s:=by
 unfold uF;rw[if_neg (by intro q;have q:=eq_of_beq q;injection q with q;exact j1 q)];refine ag (J4 Gb ?_);rw[if_pos rfl];refine ag (aD ?_);refine ag (AI Gb ?_);refine ag (AI Ga ?_);rw[if_neg hsz];refine ag (AJ Gb ?_);refine ag (fq ?_);refine ag (wp_walk Gb fun xs px=>?_);have elx:Io (IK prog w) xs.toList:=Gb.el.perm px;have kx:(xs.toList.map vR).Perm ls:=(px.map vR).trans Gb.pm;refine ag (wpAny_forIn_array' _ (fun rest _ s'=>∃done es' rM t',xs.toList=done++rest/\s'={s with heap:=s'.heap}/\Heap.SameBut a s.heap s'.heap/\SG prog w s'.heap a (ks.filter fun k=>!(done.map vR).contains k) es' rM t') _ ?_ ?_ xs _ ?_)
 ·rintro x rest _ s1 ⟨done,es',rM,t',hd,G5,sb,G1⟩;have hx:x∈xs.toList:=by rw[hd];exact aH.mpr (.inr ah)
  obtain⟨tk,ex⟩:=BC elx hx;obtain⟨hh,v⟩:=x;have e1:hh=(IK prog w).hash (vR (hh,v)):=congrArg Prod.fst ex;have e2:v=.int (vR (hh,v)) tk:=congrArg SV ex;generalize vR (hh,v)=k at*;subst e2;subst e1;dsimp only;refine ag (fq (O4 G1 fun h' Vq ep2 t2 YL G2 _=>?_));have Gb2:SG prog w h' b ls eb eq tb:=Gb.keep fun o e=>by rw[YL.2 b j1,sb.2 b j1];exact e
  refine ag (uO (s:={s1 with heap:=h'}) Gb2 (aD ?_));refine⟨done++[((IK prog w).hash k,.int k tk)],Vq,ep2,t2,by rw[hd,dF];rfl,by rw[G5],sb.trans YL,?_⟩;have:(ks.filter fun x=>!(((done++[((IK prog w).hash k,lB k tk)]).map vR).contains x))=(ks.filter fun x=>!(done.map vR).contains x).filter fun x=>decide (x≠k):=by
   rw[List.filter_filter];apply El;intro x _;rw[aF,aY,aY];show(!decide (x∈done.map vR++[k]))=_;by_cases c1:x=k
   ·subst c1;simp
   ·simp[c1]
  rw[this];exact G2
 ·rintro _ s1 ⟨done,es',rM,t',hd,G5,sb,G1⟩;rw[cV]at hd;refine aD (Za G1 fun h' Vq ep2 t2 YL G2=>?_);rw[G5];refine h h' (sb.trans YL) ⟨Vq,ep2,t2,?_⟩;have:(ks.filter fun k=>!(done.map vR).contains k)=ks.filter fun k=>!ls.contains k:=by
   apply El
   intro x _;rw[<-hd,aY,aY]
   congr 1
   exact decide_eq_decide.mpr kx.mem_iff
  rw[<-this];exact G2
 ·refine⟨[],es,ep,t,rfl,by cases s;rfl,Heap.SameBut.refl _ _,?_⟩;have:(ks.filter fun k=>!(([]:List (Int×aj)).map vR).contains k)=ks:=Vj.mpr fun x _=>rfl
  rw[this];exact Ga
theorem VG{Q:aj->au->Prop}{id:String}(Ga:SG prog w s.heap a ks es ep t)(Gb:SG prog w s.heap b ls eb eq tb)
  (h:∀h',(∀x o,s.heap.get? x=some o->h'.get? x=some o)->LD prog w h' s.heap.objs.size (ks.filter fun k=>!ls.contains k)->Q (.ref s.heap.objs.size) {s with heap:=h'}):
  wpAny (model prog w) A (yh id a (.ref b)) Q E s:=by
 unfold yh;refine ag (J4 Gb ?_);simp only[Bool.not_true,Cc,if_false,if_true];refine ag (aD ?_);simp only[ly,Cc,if_false,if_true];refine ag (AI Gb ?_);refine ag (AI Ga ?_);refine jA (fun q=>?_) (fun _=>?_)
 ·refine ag (QQ ?_);unfold Builtin.Frozenset.copyOf;refine ag (ag (Q3 Ga (ag (VF (ag (aD ?_))))));have sm:∀x o,s.heap.get? x=some o->(s.heap.push (gA #[] 0 (.fresh 0 0 (!uI w)))).get? x=some o:=fun x o e=>Heap.get?_push_of_some _ e
  have na:a≠s.heap.objs.size:=bE (Heap.lt_size Ga.at_);have nb:b≠s.heap.objs.size:=bE (Heap.lt_size Gb.at_);refine ag (VH (s:={s with heap:=s.heap.push (gA #[] 0 (.fresh 0 0 (!uI w)))}) Po (Ga.keep (sm a)) (bT na) fun h1 Vr ep1 t1 sb1 G1=>?_);refine aD ?_;have Gb1:SG prog w h1 b ls eb eq tb:=(Gb.keep (sm b)).keep fun o e=>by rw[sb1.2 b nb];exact e
  refine ag (aD ?_);refine ag (fq (Mb (s:={s with heap:=h1}) G1 Gb1 nb (by have:=Ga.sz;have:=G1.sz;omega) fun h2 YL G2=>?_));refine aD (h h2 (fun x o e=>?_) G2);rw[YL.2 x (bE (Heap.lt_size e)),sb1.2 x (bE (Heap.lt_size e))];exact sm x o e
 ·exact Ta Ga Gb h
end
theorem Ts:entryFor table "set.__sub__" =some n0.«frozenset.__sub__»:=QU (id':="frozenset.__sub__") (by kernel_rfl) rfl (by decide+kernel) (by kernel_rfl)
theorem Qg:entryFor table "set.__iter__" =some n0.«frozenset.__iter__»:=QU (id':="frozenset.__iter__") (by kernel_rfl) rfl (by decide+kernel) (by kernel_rfl)
theorem WN:Manifest.owners.lookup (String.ofList "rotareti_tes".toList.reverse)=some Manifest.sig_set_iterator:=by kernel_rfl
theorem yq:Slot "set_iterator" "__next__" "set_iterator.__next__" :=
 .of (n:="__next__") (owner:="set_iterator") (by rw[typeLookup_type,Y5];kernel_rfl) (by decide+kernel) (by decide+kernel) (by decide+kernel) (.inl (by decide+kernel)) (by rw[QT];kernel_rfl)
theorem NU:entryFor table "set_iterator.__next__" =some n0.«set_iterator.__next__»:=entryFor_of_tree (by kernel_rfl)
theorem SI(a:aj):argsOk "set_iterator.__next__" ⟨[a],[]⟩:=by
 unfold argsOk;rw[signature?_of (o:="rotareti_tes".toList) (n:="__txen__".toList) (id:="set_iterator.__next__") (by kernel_rfl) WN]
 kernel_rfl
theorem Rj:Slot "set_iterator" "__iter__" "set_iterator.__iter__" :=
 .of (n:="__iter__") (owner:="set_iterator") (by rw[typeLookup_type,Y5];kernel_rfl) (by decide+kernel) (by decide+kernel) (by decide+kernel) (.inl (by decide+kernel)) (by rw[QT];kernel_rfl)
theorem XX:entryFor table "set_iterator.__iter__" =some n0.«dict_keyiterator.__iter__»:=QU (id':="dict_keyiterator.__iter__") (by kernel_rfl) rfl (by decide+kernel) (by kernel_rfl)
theorem aaM(a:aj):argsOk "set_iterator.__iter__" ⟨[a],[]⟩:=by
 unfold argsOk;rw[signature?_of (o:="rotareti_tes".toList) (n:="__reti__".toList) (id:="set_iterator.__iter__") (by kernel_rfl) WN]
 kernel_rfl
section
variable {prog:bw} {w:bQ} {A:cR} {E:aj->au->Prop} {s:au} {a b:Addr} {ks ls:List Int} {es eb:Array (Int×aj)} {ep eq:Nat} {t tb:dA}
theorem UZ{Q:aj->au->Prop}(Ga:SG prog w s.heap a ks es ep t)(Gb:SG prog w s.heap b ls eb eq tb)
  (h:∀h',(∀x o,s.heap.get? x=some o->h'.get? x=some o)->LD prog w h' s.heap.objs.size (ks.filter fun k=>!ls.contains k)->Q (.ref s.heap.objs.size) {s with heap:=h'}):
  wpAny (model prog w) A (binaryOp .Sub (.ref a) (.ref b)) Q E s:=by
 refine wpAny_binaryOp_same (op:=.Sub) (T:="set") Ga.typ Gb.typ F.fills_set_sub F.slot_set_sub (ja F.slot_set_sub Ga.typ Ts ?_ (F.args_set_sub_2 _ _));show wpAny _ _ (Builtin.Frozenset.slot1 "__sub__" ⟨[.ref a,.ref b],[]⟩ >>= _) _ _ _;refine ag (aD ?_);dsimp only;refine ag (show wpAny _ _ (nS (.ref a) >>= _) _ _ _ from ag (J4 Ga (J4 Gb ?_)));rw[if_neg (by decide)];refine ag (aD ?_);refine ag (VG Ga Gb fun h' k G=>?_);exact aD ⟨_,rfl,by simp,h h' k G⟩
def uh(w:bQ)(a:Addr)(ep:Nat)(es:Array (Int×aj)):Array (Int×aj):=if uI w=true then pickOrder (w.params.setOrder a ep) es else es
theorem A9(w:bQ)(a:Addr)(ep:Nat)(es:Array (Int×aj)):(uh w a ep es).toList.Perm es.toList:=by
 unfold uh;split
 ·exact IZ _ _
 ·exact v8 _
def ow(w:bQ)(t:dA)(i:Nat):Nat:=if uI w=true then 0 else if i=0 then 0 else t.place.getD (i-1) 0+1
def DS(w:bQ)(a:Addr)(es:Array (Int×aj))(ep:Nat)(t:dA)(i:Nat):Obj:={cls:=.type "set_iterator",data:=.fields #[.int (ow w t i) 0,.int i 0,.ref a,.int es.size 0,.int ep 0]}
theorem QC(T:TL w t es.size)(i:Nat)(hi:i<=es.size)(hb:¬uI w=true):bM t.place (ow w t i)=i:=by
 have sz:=T.sz;by_cases e:i=0
 ·have es0:ow w t i=0:=by unfold ow;rw[if_neg hb,if_pos e]
  rw[es0,e];obtain⟨h1,h2,h3⟩:=vh T.rise.1 0;cases hz:bM t.place 0 with
  |zero=>rfl
  |succ n=>
   rw[hz]at h1 h2;have:=h2 0 (by omega) (by omega);omega
 ·have hl:i-1<t.place.size:=by omega
  have Vr:ow w t i=t.place[i-1]+1:=by unfold ow;rw[if_neg hb,if_neg e,c8,cW hl];rfl
  rw[Vr];obtain⟨h1,h2,h3⟩:=vh T.rise.1 (t.place[i-1]+1);have mono:∀(x y:Nat) (hx:x<t.place.size) (hy:y<t.place.size),x<y->t.place[x]<t.place[y]:=fun x y hx hy hxy=>by
   have:=tW.mp T.rise.1 x y (by rw[aI];exact hx) (by rw[aI];exact hy) hxy;rw[eY,eY]at this;exact this
  apply Nat.le_antisymm
  ·apply bZ
   intro q;have:=h2 i (by omega) (by omega);have:=mono (i-1) i hl (by omega) (by omega);omega
  ·apply bZ
   intro q;have:=h3 (i-1) hl (by omega);omega
theorem Q1(G:SG prog w s.heap a ks es ep t){i:Nat}(hi:i<=es.size){Q:Option (aj×Nat)->au->Prop}
  (h:Q ((uh w a ep es)[i]?.map fun e=>(e.2,ow w t (i+1))) s):wpAny (model prog w) A (setNext a (ow w t i) i ep) Q E s:=by
 unfold setNext;refine ag (iM G ?_);dsimp only;unfold setsByText;refine ag (ag (ie (aD ?_)));refine jA (fun q=>?_) (fun q=>?_)
 ·have q:uI w=true:=q;rw[if_neg (by simp)];refine ag (show wpAny _ _ (setWalk a) _ _ _ from ?_);unfold setWalk setsByText;refine ag (iM G ?_);dsimp only;refine ag (ag (ie (aD ?_)));refine jA (fun _=>?_) (fun n=>absurd q n);refine ag (ie (aD (aD ?_)));have e1:uh w a ep es=pickOrder (w.params.setOrder a ep) es:=if_pos q;have e2:∀i,ow w t i=0:=fun i=>if_pos q
  rw[e1,e2]at h;rw[e2];exact h
 ·have q:¬uI w=true:=q;have hl:t.led=true:=by rw[G.tl.led,dX _ |>.mp q];rfl
  show wpAny _ _ (if (!t.plain&&decide (es.size>1))=true then _ else _) _ _ _;rw[if_neg (by rw[G.tl.plain];simp)];refine ag (show wpAny _ _ (if (!t.led&&!es.isEmpty)=true then _ else _) _ _ _ from ?_);rw[if_neg (by rw[hl];simp)];refine aD ?_;rw[QC G.tl i hi q];have e1:uh w a ep es=es:=if_neg q;rw[e1]at h;have sz:=G.tl.sz;by_cases c:i<es.size
  ·rw[cW c,cW (show i<t.place.size by omega)];rw[cW c]at h;refine aD ?_;have e2:ow w t (i+1)=t.place[i]+1:=by
    unfold ow;rw[if_neg q,if_neg (by omega),YI,c8,cW (show i<t.place.size by omega)];rfl
   rw[e2]at h;exact h
  ·rw[iJ (by omega),iJ (by omega)];rw[iJ (by omega)]at h;exact aD h
end
section
variable {prog:bw} {w:bQ} {A:cR} {E:aj->au->Prop} {s:au} {a I:Addr} {ks:List Int} {es:Array (Int×aj)} {ep:Nat} {t:dA}
theorem Ak{i:Nat}(h:s.heap.get? I=some (DS w a es ep t i)):s.TypeIs (.ref I) "set_iterator" :=⟨_,h,rfl⟩
theorem Xh{Q:aj->au->Prop}(G:SG prog w s.heap a ks es ep t)(h:Q (.ref s.heap.objs.size) {s with heap:=s.heap.push (DS w a es ep t 0)}):wpAny (model prog w) A (pyIter (.ref a)) Q E s:=by
 refine wpAny_pyIter_slot G.typ F.slot_set_iter (ja F.slot_set_iter G.typ Qg ?_ (F.args_set_iter_1 _));unfold n0.«frozenset.__iter__» Builtin.Frozenset.slot0;refine ag (show wpAny _ _ (slotArgs "__iter__" 0 ⟨[.ref a],[]⟩ >>= _) _ _ _ from ag (aD (aD ?_)));refine ag (AI G ?_);unfold setDrawn setsByText;refine ag (ag (iM G (ag (ag (ie (aD (aD ?_)))))));dsimp only;refine jA (fun q=>absurd (show(!w.params.followText "set-order" &&(!t.plain&&decide (es.size>1)))=true from q) (by rw[G.tl.plain];simp)) (fun _=>?_);refine ag (aD ?_);refine ag (AJ G ?_);refine ag (pR (aD ⟨_,rfl,"set_iterator",_,⟨_,Heap.get?_push_size _ rfl,rfl⟩,yq.lookup,?_⟩));have e:ow w t 0=0:=by unfold ow;split<;>rfl
 unfold DS at h;rw[e]at h;exact h
theorem ZV{i:Nat}(hI:s.heap.get? I=some (DS w a es ep t i))(G:SG prog w s.heap a ks es ep t)(hi:i<es.size){Q:Option aj->au->Prop}
  (h:∀e h',(uh w a ep es)[i]? =some e->h'.get? I=some (DS w a es ep t (i+1))->Heap.SameBut I s.heap h'->Q (some e.2) {s with heap:=h'}):wpAny (model prog w) A (pyNext (.ref I)) Q E s:=by
 have ls:(uh w a ep es).size=es.size:=by rw[<-aI,(A9 w a ep es).length_eq,aI]
 unfold pyNext;refine ag (Fy (o4 (name:=Str.ofString "__next__") (Ak hI) yq (ja yq (Ak hI) NU ?_ (SI _))));unfold n0.«set_iterator.__next__»;refine ag (aD ?_);refine ag (wpAny_fieldsOf hI rfl ?_);dsimp only;refine ag (show wpAny _ _ (setEntries a) _ _ _ from ag (iM G (aD ?_)));rw[if_neg (by simp)];rw[bB,bB,bB];refine ag (Q1 G (rO hi) ?_);have hg:(uh w a ep es)[i]? =some (uh w a ep es)[i]:=cW (by omega);rw[hg];dsimp only[Option.map];refine ag (ic hI (by simp) fun h1 e1 sb1=>?_);refine ag (ic (s:={s with heap:=h1}) e1 (by simp) fun h2 e2 YL=>?_);exact aD ⟨_,rfl,aD (h _ h2 hg e2 (sb1.trans YL))⟩
theorem next_end(hh:A.handled=none)(hI:s.heap.get? I=some (DS w a es ep t es.size))(G:SG prog w s.heap a ks es ep t){Q:Option aj->au->Prop}
  (h:∀h',Heap.ExtBut I s.heap h'->Q none {s with heap:=h'}):wpAny (model prog w) A (pyNext (.ref I)) Q E s:=by
 have ls:(uh w a ep es).size=es.size:=by rw[<-aI,(A9 w a ep es).length_eq,aI]
 unfold pyNext;refine ag (Fy (o4 (name:=Str.ofString "__next__") (Ak hI) yq (ja yq (Ak hI) NU ?_ (SI _))));unfold n0.«set_iterator.__next__»;refine ag (aD ?_);refine ag (wpAny_fieldsOf hI rfl ?_);dsimp only;refine ag (show wpAny _ _ (setEntries a) _ _ _ from ag (iM G (aD ?_)));rw[if_neg (by simp)];rw[bB,bB,bB];refine ag (Q1 G (ao _) ?_);rw[show(uh w a ep es)[es.size]? =none from iJ (by omega)];dsimp only[Option.map];refine ag (ic hI (by simp) fun h1 e1 sb1=>?_);show wpAny _ _ (newExc (.type "StopIteration") [] >>= _) _ _ _;refine ag ?_;simp only[newExc,newTuple];refine ag (pR ?_ (by size_fits));refine ag (m:=firstArgMember _ _) (wpAny_of_eq (a:=vX) (by simp only[firstArgMember];rfl) ?_);refine pR ?_ (by size_fits);simp only[raiseNew];refine ag (wpAny_handled ?_);rw[show A.in1.handled=none from hh];refine ag (aD (wpAny_throw ?_));refine ag (rF (b:=true) (T:="StopIteration") ⟨_,Heap.get?_push_size _ rfl,rfl⟩ isSubtype_stop ?_);exact aD (h _ ((sb1.extBut.push _).push _))
theorem Tb(hh:A.handled=none)(I a:Addr)(j1:a≠I):Walks prog w A I [I,a] [I] es.size (fun i v=>∃e,(uh w a ep es)[i]? =some e/\e.2=v) (fun i h=>h.get? I=some (DS w a es ep t i)/\SG prog w h a ks es ep t) where
 sub:=fun b hb=>by rw[aN.mp hb];exact ah
 frame:=fun _ _ _ st hk=>⟨hk I ah _ st.1,st.2.keep (hk a (aA _ ah))⟩
 item:=fun i s Q E hi st hQ=>ZV st.1 st.2 hi fun e h' h1 h2 sb=>hQ e.2 h' s.toks ⟨e,h1,rfl⟩ ⟨h2,st.2.keep fun o q=>by rw[sb.2 a j1];exact q⟩ fun b o hb q=>by
  rw[sb.2 b (fun z=>hb (by rw[z];exact ah))];exact q
 done:=fun s Q E st hQ=>next_end hh st.1 st.2 fun h' eb=>hQ h' s.toks fun b o hb q=>eb b o (fun z=>hb (by rw[z];exact ah)) q
 self:=fun i s Q E st hQ=>by
  refine wpAny_pyIter_slot (Ak st.1) Rj (ja Rj (Ak st.1) XX ?_ (aaM _));show wpAny _ _ (ret (.ref I)) _ _ s;exact aD ⟨_,rfl,"set_iterator",_,Ak st.1,yq.lookup,hQ⟩
end
end Pd
namespace Pd
open PySem PyProof.Rows
theorem q5(val:Nat->Int):∀i,(firstMet val i).Nodup
 |0=>eI
 |i+1=>by
  rw[Vh];unfold QW;split
  ·exact q5 val i
  ·rename_i q;rw[gw];refine⟨q5 val i,by simp,fun x hx y hy e=>q ?_⟩;rw[aN.mp hy]at e;exact dg.mpr ⟨x,hx,by rw[e];simp⟩
section
variable {prog:bw} {w:bQ} {A:cR} {R:Result->au->Prop} {I:Addr} {fp wr:List Addr} {G:Array GenState->Array GenState->Prop} {n:Nat} {P:Nat->aj->Prop} {St:Nat->au->Prop}
def QO(prog:bw)(w:bQ)(h:Heap)(S:Addr)(ks:List Int):Prop:=∃es ep t,SG prog w h S ks es ep t/\U5 w t es.size
theorem Zb{E:aj->au->Prop}{s:au}{a:Addr}{ks:List Int}{Q:Bool->au->Prop}{k:Int}{tk:Vv}(G:QO prog w s.heap a ks)(hb:ks.length+1<=2000)
  (h:∀h',Heap.SameBut a s.heap h'->QO prog w h' a (QW ks k)->∀b,Q b {s with heap:=h'}):
  wpAny (model prog w) A (setAddHashed a (.int k tk) ((IK prog w).hash k)) Q E s:=by
 obtain⟨es,ep,t,G,T⟩:=G;unfold QW at h;by_cases q:ks.any (· ==k)=true
 ·rw[if_pos q]at h;have hk:k∈ks:=by
   obtain⟨x,h1,h2⟩:=dg.mp q;rw[<-beq_iff_eq.mp h2];exact h1
  have yes:(es.toList.any fun e=>(IK prog w).is k e.2)=true:=by
   obtain⟨e,h1,h2⟩:=bh.mp (G.pm.mem_iff.mpr hk);exact dg.mpr ⟨e,h1,(G4 G.el h1 k).mpr h2⟩
  refine VI G.at_ T G.el (JC k tk) rfl rfl (by have:=G.sz;have:scanBound=4096:=rfl;omega) fun h' es' rM t' sb ho T' p b=>?_
  rw[if_pos yes]at p;exact h h' sb ⟨es',rM,t',⟨ho,T'.tl,G.el.perm p,(p.map vR).trans G.pm,G.nd,G.le⟩,T'⟩ b
 ·rw[if_neg q]at h;refine Q4 G T (fun hk=>q (dg.mpr ⟨k,hk,by simp⟩)) hb fun h' es' rM t' sb G' T' b=>h h' sb ⟨es',rM,t',G',T'⟩ b
theorem QO.keep{h h':Heap}{a:Addr}{ks:List Int}(x:QO prog w h a ks)(k:∀o,h.get? a=some o->h'.get? a=some o):QO prog w h' a ks:=let ⟨es,ep,t,g,y⟩:=x;⟨es,ep,t,g.keep k,y⟩
theorem Wb(W:WalksS prog w A.in1 I fp wr G n P St)(S:Addr)(hS:S∉fp)(val:Nat->Int)(hv:∀i v,P i v->∃t,v=.int (val i) t)(hb:n+1<=2000):
  ∀(k i:Nat) (s:au),n-i=k->i<=n->St i s->QO prog w s.heap S (firstMet val i)->
   (∀s',Moved (S::wr) G s s'->QO prog w s'.heap S (firstMet val n)->R (.ok (.ret .none)) s')->codeAny (model prog w) A (.builtin "set.update.loop" ⟨[.ref S,.ref I],[]⟩) R s:=by
 have hw:S∉wr:=fun h=>hS (W.sub _ h)
 have up:∀b∈wr,b∈S::wr:=fun b hb=>aA _ hb
 intro k;induction k with
 |zero=>
  intro i s e1 e2 st gr fin;cases (show i=n by omega);refine lj F.entry_set_update_loop ?_;rw[kR F.plain_set_update_loop _];show wpAny _ A.in1 (pyNext (.ref I) >>= _) _ _ s;refine ag (W.done s _ _ st fun s1 m1=>?_);show wpAny _ A.in1 (ret vX) _ _ s1;exact aD (fin s1 (m1.mono up) (gr.keep fun o e=>m1.heap S o hw e))
 |succ k ih=>
  intro i s e1 e2 st gr fin;refine lj F.entry_set_update_loop ?_;rw[kR F.plain_set_update_loop _];show wpAny _ A.in1 (pyNext (.ref I) >>= _) _ _ s;refine ag (W.item i s _ _ (by omega) st fun v s1 hp st1 m1=>?_);obtain⟨t,rfl⟩:=hv i v hp;show wpAny _ A.in1 (holding [lB (val i) t] (setAdd S (.int (val i) t)) >>= _) _ _ s1;refine ag (fq ?_);unfold setAdd;refine fq (ag ((IK prog w).pyHash (k:=val i) (JC _ _) ?_));have le:=firstMet_length_le val i;refine Zb (s:={s1 with toks:=s1.toks+1}) (gr.keep fun o e=>m1.heap S o hw e) (by omega) fun h2 sb g2 b=>?_
  rw[<-Vh]at g2;refine aD ⟨Vd F.plain_set_update_loop _,ih (i+1) _ (by omega) (by omega) (W.frame _ s1 _ _ st1 (iV _) fun b hb o e=>?_) g2 fun s3 m3 g3=>?_⟩
  ·rw[sb.2 b (fun h=>hS (h▸hb))];exact e
  ·refine fin s3 (Moved.trans W.gtrans ((m1.mono up).then_heap (iV _) fun b o hb e=>?_) m3) g3;rw[sb.2 b (fun h=>hb (by rw[h];exact ah))];exact e
end
section
variable {prog:bw} {w:bQ} {A:cR} {E:aj->au->Prop} {s:au}
theorem W4(a:aj){Q₁:aj->au->Prop}(h:Q₁ (.ref s.heap.objs.size) {s with heap:=s.heap.push (gA #[] 0 (.fresh 0 0 (!uI w)))}):
  codeAny (model prog w) A (.call (.builtin "set.__new__") ⟨[.type "set",a],[]⟩) (wants Q₁ E) s:=by
 refine OE ?_;show wpAny _ A.in1 (do checkBuiltinCall "set.__new__" ⟨[.type "set",a],[]⟩;again (.builtin "set.__new__" ⟨[.type "set",a],[]⟩)) _ _ s;refine ag (wpAny_of_eq (F.newCall_set_1 a) (aD ⟨Vd F.plain_set_new _,lj F.entry_set_new ?_⟩));rw[kR F.plain_set_new _];unfold n0.«set.__new__» Builtin.Frozenset.newClass;have aib:=sub_set_self;obtain⟨hp,g,d,tk,os⟩:=s;dsimp only
 wp_walk
 refine ie (aD ?_);dsimp only;simp only[newObj];exact ag (wpAny_alloc (aD (aD h)))
set_option maxRecDepth 100000 in
set_option maxHeartbeats 3200000 in
theorem Xb{l:Addr}{items:Array aj}{ns:List Int}{Q:aj->au->Prop}(hh:A.handled=none)(hl:s.heap.IsList l items)(hi:Iq items.toList ns)(hb:items.size+1<=2000)
  (h:∀(h':Heap) (tk:Nat),LD prog w h' s.heap.objs.size (firstMet (fun i=>ns.getD i 0) items.size)->(∀b o,s.heap.get? b=some o->h'.get? b=some o)->Q (.ref s.heap.objs.size) {s with heap:=h',toks:=tk}):
  wpAny (model prog w) A (call (.type "set") [.ref l]) Q E s:=by
 obtain⟨c,tl,m0⟩:=F.called_set.mro;have m1:=F.called_set.made;have m2:=F.called_set.sub;have m3:=F.called_set.notType;have m4:=F.called_set.canCreate;have m5:=F.typeCall_set_1 (.ref l);have m6:=F.called_set.init.lookup;have m7:=F.called_set.init.bind (.ref s.heap.objs.size);have nw:∀b o,s.heap.get? b=some o->(s.heap.push (gA #[] 0 (.fresh 0 0 (!uI w)))).get? b=some o:=fun b o e=>Heap.get?_push_of_some _ e
 have at0:(s.heap.push (gA #[] 0 (.fresh 0 0 (!uI w)))).get? s.heap.objs.size=some (gA #[] 0 (.fresh 0 0 (!uI w))):=Heap.get?_push_size _ rfl;have ty0:JQ {s with heap:=s.heap.push (gA #[] 0 (.fresh 0 0 (!uI w)))} (.ref s.heap.objs.size) "set" :=⟨_,at0,rfl⟩;refine QS (OE (show wpAny _ _ (callAny (.type "set") _) _ _ _ from aD ⟨Vy _ (by decide+kernel),lj F.entry_type_call ?_⟩));rw[SS (Y4 "set" [.ref l] []) rfl]
 repeat (any_goals (first|assumption|wp_step))
 refine mE (W4 (.ref l) (E:=E) (Q₁:=fun ob s1=>ob=.ref s.heap.objs.size/\s1={s with heap:=s.heap.push (gA #[] 0 (.fresh 0 0 (!uI w)))}) ⟨rfl,rfl⟩) fun r s1 hr=>?_
 match r,hr with
 |.error e,hr=>exact hr
 |.ok (.ret ob),hr=>
  obtain⟨rfl,rfl⟩:=hr
  repeat (any_goals (first|assumption|wp_step))
  refine mE (Df (R:=wants (fun r s2=>r=.none/\∃h' tk,s2={s with heap:=h',toks:=tk}/\LD prog w h' s.heap.objs.size (firstMet (fun i=>ns.getD i 0) items.size)/\∀b o,s.heap.get? b=some o->h'.get? b=some o) E) F.called_set.init.plain F.entry_set_init (check_set_init_1 ty0 ?_)) fun r2 s2 Nz=>?_
  ·have gs:SG prog w (s.heap.push (gA #[] 0 (.fresh 0 0 (!uI w)))) s.heap.objs.size [] #[] 0 (.fresh 0 0 (!uI w)):=Po;have l1:(s.heap.push (gA #[] 0 (.fresh 0 0 (!uI w)))).IsList l items:=hl.push _;obtain⟨ol,o1,o2,nl,o3⟩:=id hl;have l2:l<s.heap.objs.size:=Heap.lt_size o1;have tl0:JQ {s with heap:=s.heap.push (gA #[] 0 (.fresh 0 0 (!uI w)))} (.ref l) "list" :=⟨ol,nw _ _ o1,o2⟩;have u1:=F.sub_list_set;have u2:=F.sub_list_frozenset;show wpAny _ _ (n0.«set.__init__» ⟨[.ref s.heap.objs.size,.ref l],[]⟩) _ _ _;unfold n0.«set.__init__»;refine ag (m:=noKeywords "set" _) (aD ?_);dsimp only;unfold setUsed Builtin.Frozenset.updateFrom;generalize hP:pyIter=PI
   wp_walk
   subst hP;refine lG l1 ?_;refine ag (wpAny_runValue ?_);have n1:l≠(s.heap.push (gA #[] 0 (.fresh 0 0 (!uI w)))).objs.size:=by rw[Heap.size_push];exact bE (kS l2)
   have n2:s.heap.objs.size∉ [(s.heap.push (gA #[] 0 (.fresh 0 0 (!uI w)))).objs.size,l]:=by
    rw[Heap.size_push];intro q;rcases aM.mp q with q|q
    ·exact absurd q (bE (v7 _))
    ·exact absurd (aN.mp q) (lO l2)
   refine Wb ((Ve (show A.in1.in1.in1.handled=none by simp[hh]) _ l n1 items).toS) s.heap.objs.size n2 (fun i=>ns.getD i 0) (fun i v e=>IntsAre.int_at hi i v (by rw[gM];exact e)) hb (items.size-0) 0 _ (by omega) (bK _) ⟨⟨_,Heap.get?_push_size _ rfl,rfl,rfl⟩,l1.push _⟩ ⟨_,_,_,gs.keep fun o e=>Heap.get?_push_of_some _ e,FT w⟩ fun s3 mv g3=>?_
   obtain⟨es3,ep3,t3,g3,_⟩:=g3;obtain⟨h3,q1,q2,tk3,q3⟩:=s3;cases (show q1=s.gens from mv.gens);cases (show q2=s.drawn from mv.drawn);cases (show q3=s.os from mv.os);refine aD (show wpAny _ _ (ret vX) _ _ _ from aD ⟨rfl,h3,tk3,rfl,⟨es3,ep3,t3,g3⟩,fun b o e=>?_⟩);have e1:=Heap.lt_size e;refine mv.heap b o (fun q=>?_) (Heap.get?_push_of_some _ (nw b o e));rcases aM.mp q with q|q
   ·exact absurd q (bE e1)
   ·have q:=aN.mp q;rw[Heap.size_push]at q;exact absurd q (bE (kS e1))
  ·match r2,Nz with
   |.error e,Nz=>exact Nz
   |.ok (.ret r),Nz=>
    obtain⟨rfl,h',tk,rfl,g1,g2⟩:=Nz
    repeat (any_goals (first|assumption|wp_step))
    exact h _ _ g1 g2
end
section
variable {prog:bw} {w:bQ} {A:cR} {E:aj->au->Prop} {s:au} {a:Addr} {ks:List Int} {es:Array (Int×aj)} {ep:Nat} {t:dA}
theorem Xy{Q:Bool->au->Prop}(hT:s.TypeIs (.ref a) "set")(h:Q false s):wpAny (model prog w) A (BW (.ref a)) Q E s:=by
 unfold BW;refine ag (wpAny_specialOf hT PySem.F.slot_set_len.lookup ?_);generalize hid:("set.__len__" :String)=id0
 wp_delta
 rw[show splitId id0=some ("set","__len__")from by subst hid;decide+kernel];subst hid;refine ag (rF (b:=true) (T:="set") hT sub_set_set ?_);refine jA (fun q=>absurd q (by decide)) (fun _=>?_);refine jA (fun _=>?_) (fun q=>absurd (by decide+kernel) q);exact ag (wpAny_typeOf hT (aD h))
theorem Zd:YE prog w "set" a a es.size (fun i v=>∃e,(uh w a ep es)[i]? =some e/\e.2=v) (fun h=>SG prog w h a ks es ep t) where
 type:=fun _ G=>G.typ
 there:=fun _ G=>⟨Heap.lt_size G.at_,Heap.lt_size G.at_⟩
 keep:=fun _ _ G k=>G.keep (k a (.inl rfl))
 notList:=by decide
 notTuple:=by decide
 hint:=fun _ _ _ _ G hq=>Xy G.typ hq
 iter:=fun A s hh G=>⟨DS w a es ep t 0,_,fun _ _ hq=>Xh G hq,Tb (t:=t) (ks:=ks) hh _ a (bE (Heap.lt_size G.at_)),⟨Heap.get?_push_size _ rfl,G.keep fun o e=>Heap.get?_push_of_some _ e⟩⟩
theorem N8{T:String}{r d:Addr}{n:Nat}{P:Nat->aj->Prop}{OK:Heap->Prop}{Q:List aj->au->Prop}(K:YE prog w T r d n P OK)(hh:A.handled=none)(gR:OK s.heap)(hn:n<=sizeLine)
  (h:∀h' tk acc,(∀b o,s.heap.get? b=some o->h'.get? b=some o)->s.heap.objs.size<=h'.objs.size->ItemsOf P acc n->Q acc.toList {s with heap:=h',toks:=tk}):wpAny (model prog w) A (collect (.ref r)) Q E s:=by
 unfold collect;refine ag (wpAny_runValue (lj PySem.F.entry_proto_collect ?_));rw[kR PySem.F.plain_proto_collect _];show wpAny _ A.in1 (newList [] >>= fun l=>again (.builtin "list.__iadd__" ⟨[l,.ref r],[]⟩)) _ _ s;refine ag (pR ?_);refine aD ⟨Vd JS _,lj PySem.F.entry_list_iadd ?_⟩;rw[kR JS _];have lt:=K.there _ gR;refine show wpAny _ A.in1 (Builtin.List.listExtendWith (.ref s.heap.objs.size) (.ref r) (.ref s.heap.objs.size)) _ _ _ from PySem.W.kdl_extend (R:=wants _ E) K hh (K.keep _ _ gR fun b _ o e=>Heap.get?_push_of_some _ e) s.heap.objs.size (lO lt.1) (lO lt.2) _ 0 (Heap.get?_push_size _ rfl) (fun h' tk acc c k1 k2 k3=>?_) hn
 show wpAny _ A (load s.heap.objs.size >>= _) _ _ _;refine ag (wpAny_load k2 ?_);exact aD (h h' tk acc (fun b o e=>k1 b o (bE (Heap.lt_size e)) (Heap.get?_push_of_some _ e)) (rO (Heap.lt_size k2)) k3)
theorem Xj(el:Io (IK prog w) es.toList){acc:Array aj}{os:Array (Int×aj)}(po:os.toList.Perm es.toList)(h:ItemsOf (fun i v=>∃e,os[i]? =some e/\e.2=v) acc es.size):Iq acc.toList (os.toList.map vR):=by
 have so:os.size=es.size:=by rw[<-aI,po.length_eq,aI]
 have ev:acc.toList=os.toList.map (·.2):=by
  apply lI
  ·rw[aI,ae,aI,h.1,so]
  ·intro i h1 h2;obtain⟨e,e1,e2⟩:=h.2 i acc.toList[i] (by rw[<-gM];exact aB h1);rw[jJ];rw[<-gM]at e1;rw[ae]at h2;rw[aB h2]at e1;rw[ax e1];exact e2.symm
 rw[ev];have elo:=el.perm po;generalize os.toList=l at elo;induction l with
 |nil=>exact .nil
 |cons e l ih=>
  obtain⟨t,he⟩:=BC elo (ah);rw[bo,bo,congrArg SV he];exact .cons _ t (ih elo.tail)
theorem Pl{Q:aj->au->Prop}(hh:A.handled=none)(G:SG prog w s.heap a ks es ep t)
  (h:∀(h':Heap) (tk r rM:Nat) (out:Array aj) (ns:List Int),Iq out.toList ns->ns.Perm ks->ns.Pairwise (· <= ·)->(∀b o,s.heap.get? b=some o->h'.get? b=some o)->s.heap.objs.size<=r->h'.get? r=some (seqObj "list" out rM)->Q (.ref r) {s with heap:=h',toks:=tk}):
  wpAny (model prog w) A (call (.builtin "sorted") [.ref a]) Q E s:=by
 refine Calls.call_function_entry kind_sorted plain_sorted entry_sorted (args_sorted1 _) ?_;unfold n0.«sorted»;refine ag (m:=checkCount "sorted" 1 1 _) (aD ?_);have le:=G.le;have sz:=G.sz;have big:=wA;refine ag (N8 Zd (by simp[hh]) G (by omega) fun h1 tk acc k1 le1 k2=>?_);have hi:=Xj G.el (A9 w a ep es) k2;have hlen:acc.toList.length<=sizeLine:=by rw[aI,k2.1];omega
 refine ag (wpAny_newList ?_);have ol:(h1.push (seqObj "list" acc.toList.toArray 0)).get? h1.objs.size=some (seqObj "list" acc.toList.toArray 0):=Heap.get?_push_size _ rfl;refine ag (fq (ja slot_list_sort ⟨_,ol,rfl⟩ entry_list_sort (list_sort_treeAny ol hi hlen fun out ns a1 a2 a3=>⟨_,rfl,?_⟩) (args_list_sort _)));obtain⟨e',he⟩:=sortedHeap_at (vs:=acc.toList) (out:=out) ol;refine aD ⟨_,rfl,h _ _ _ e' out ns a1 (a2.trans (((A9 w a ep es).map vR).trans G.pm)) a3 (fun b o e=>?_) le1 he⟩;have hb:=Heap.lt_size (k1 b o e);rw[sortedHeap_old (bE hb) (by rw[Heap.size_push];exact kS hb)];exact Heap.get?_push_of_some _ (k1 b o e)
end
open AutoSeq1 (wpAny_loadPart')
abbrev kw1(t:Vv):List (Str×aj):=[(Str.ofString "start",.int 1 t)]
theorem NX(a:aj)(t:Vv):checkTypeCall "enumerate" ⟨[a],kw1 t⟩=pure ():=by kernel_rfl
theorem Qv(a:aj)(t:Vv):checkBuiltinCall "enumerate.__new__" ⟨[.type "enumerate",a],kw1 t⟩=pure ():=by kernel_rfl
theorem aaB(obj a:aj)(t:Vv):argsOk "object.__init__" ⟨[obj,a],kw1 t⟩:=by unfold argsOk;kernel_rfl
set_option maxHeartbeats 2000000 in
theorem adL(l:Addr)(items:Array aj)(n:Nat)(dct:Option Addr)(sl:Array (Option aj))(t:Vv):
  Meets (n0.«enumerate.__new__» ⟨[.type "enumerate",.ref l],kw1 t⟩) (fun _ R s=>s.heap.get? l=some {cls:=.type "list",dict:=dct,data:=.seq items n,slots:=sl}/\
   R (.ok (.ret (.ref (s.heap.push {cls:=.type "list_iterator",data:=.fields #[.ref l,.int 0 0]}).objs.size)))
    {s with heap:=(s.heap.push {cls:=.type "list_iterator",data:=.fields #[.ref l,.int 0 0]}).push {cls:=.type "enumerate",data:=.fields #[.none,.bool false,.ref s.heap.objs.size,rawInt 1,.none,.none]}}):=
 .of_wp fun prog w A R s h=>by
  obtain⟨hp,g,d,tk,os⟩:=s;obtain⟨hl,h⟩:=h;have aib:=sub_enumerate;have hL:Heap.IsList (Shared.heap ⟨hp,g,d,tk,os⟩) l items:=⟨_,hl,rfl,n,rfl⟩
  wp_walk using AA hl
  refine wpAny_stack_any fun st=>aD ?_
  split
  ·rename_i c _ _ _ _ _;cases (c==pE "enumerate")
   ·wp_walk using AA hl,lG hL
    exact⟨_,rfl,h⟩
   ·wp_walk using AA hl,lG hL
    exact⟨_,rfl,h⟩
  ·wp_walk using AA hl,lG hL
   exact⟨_,rfl,h⟩
end Pd
namespace L2
open PySem PySem.Spec PyProof.Rows
structure A3(a b c:Prop):Prop where
 (A:a) (B:b) (C:c)
structure A4(a b c d:Prop):Prop where
 (A:a) (B:b) (C:c) (D:d)
structure A5(a b c d e:Prop):Prop where
 (A:a) (B:b) (C:c) (D:d) (E:e)
structure A6(a b c d e f:Prop):Prop where
 (A:a) (B:b) (C:c) (D:d) (E:e) (F:f)
structure A8(a b c d e f g h:Prop):Prop where
 (A:a) (B:b) (C:c) (D:d) (E:e) (F:f) (G:g) (H:h)
inductive E2 {A:Sort u0} {B:Sort u1} (p:A->B->Prop):Prop
 |mk (a:A) (b:B) (h:p a b):E2 p
inductive E3 {A:Sort u0} {B:Sort u1} {C:Sort u2} (p:A->B->C->Prop):Prop
 |mk (a:A) (b:B) (c:C) (h:p a b c):E3 p
inductive E4 {A:Sort u0} {B:Sort u1} {C:Sort u2} {D:Sort u3} (p:A->B->C->D->Prop):Prop
 |mk (a:A) (b:B) (c:C) (d:D) (h:p a b c d):E4 p
inductive E5 {A:Sort u0} {B:Sort u1} {C:Sort u2} {D:Sort u3} {E:Sort u4} (p:A->B->C->D->E->Prop):Prop
 |mk (a:A) (b:B) (c:C) (d:D) (e:E) (h:p a b c d e):E5 p
abbrev Key:=Sum Int Str
def DQ:Key->aj->Bool
 |.inl k,v=>tV k v
 |.inr x,v=>Value.isStrOf x v
def ah4(w:bQ):Key->Int
 |.inl k=>hashInt k
 |.inr x=>hashStr w x
theorem iB:∀ {k:Key} {v:aj},DQ k v=true->(∃i t,k=da i/\v=lB i t)\/(∃x t,k=ER x/\v=L0 x t)
 |.inl i,v,h=>by
  obtain⟨t,e⟩:=Dg (k:=i) (v:=v) h;exact .inl ⟨i,t,rfl,e⟩
 |.inr x,v,h=>by
  obtain⟨t,e⟩:=Value.isStrOf_shape (x:=x) (v:=v) h;exact .inr ⟨x,t,rfl,e⟩
theorem Ur(i:Int)(t:Vv):DQ (.inl i) (.int i t)=true:=by simp[DQ,tV]
theorem Uq(x:Str)(t:Vv):DQ (.inr x) (.str x t)=true:=by simp[DQ,Value.isStrOf]
theorem acW(a b:Int):decide ((da a:Key)=da b)=(a==b):=by
 by_cases e:a=b
 ·subst e;simp
 ·have h:¬(da a:Key)=da b:=fun q=>e (Sum.inl.inj q)
  rw[decide_eq_false h];exact(beq_eq_false_iff_ne.mpr e).symm
theorem acS(a b:Str):decide ((ER a:Key)=ER b)=decide (a=b):=by
 by_cases e:a=b
 ·subst e;simp
 ·have h:¬(ER a:Key)=ER b:=fun q=>e (Sum.inr.inj q)
  rw[decide_eq_false h,decide_eq_false e]
theorem acV(a:Int)(b:Str):decide ((da a:Key)=ER b)=false:=decide_eq_false (fun q=>nomatch q)
theorem acT(a:Str)(b:Int):decide ((ER a:Key)=da b)=false:=decide_eq_false (fun q=>nomatch q)
def gQ(prog:bw)(w:bQ):PySem.KeyKind prog w Key where
 is:=DQ
 hash:=ah4 w
 inj:=fun v a b ha hb=>by
  rcases iB ha with ⟨i,t,rfl,rfl⟩|⟨x,t,rfl,rfl⟩
  ·rcases iB hb with ⟨j,u,rfl,e⟩|⟨y,u,rfl,e⟩
   ·injection e with e1 _;rw[e1]
   ·exact nomatch e
  ·rcases iB hb with ⟨j,u,rfl,e⟩|⟨y,u,rfl,e⟩
   ·exact nomatch e
   ·injection e with e1 _;rw[e1]
 byValue:=fun k v h=>by
  rcases iB h with ⟨i,t,rfl,rfl⟩|⟨x,t,rfl,rfl⟩<;>rfl
 pyHash:=fun hv h=>by
  rcases iB hv with ⟨i,t,rfl,rfl⟩|⟨x,t,rfl,rfl⟩
  ·exact wpAny_pyHash_int h
  ·exact wpAny_pyHash_str h
 eqBool:=fun hu hv h=>by
  rcases iB hu with ⟨i,t,rfl,rfl⟩|⟨x,t,rfl,rfl⟩
  ·rcases iB hv with ⟨j,u,rfl,rfl⟩|⟨y,u,rfl,rfl⟩
   ·rw[acW]at h;exact wpAny_eqBool_int h
   ·rw[acV]at h;exact L5 i t y u _ _ _ _ h
  ·rcases iB hv with ⟨j,u,rfl,rfl⟩|⟨y,u,rfl,rfl⟩
   ·rw[acT]at h;exact L3 x t j u _ _ _ _ h
   ·rw[acS]at h;exact wpAny_eqBool_str h
 «strs»:=fun k x t v h=>by
  rcases iB h with ⟨i,u,rfl,e⟩|⟨y,u,rfl,e⟩
  ·exact nomatch e
  ·injection e with e1 _
   subst e1;cases v<;>rfl
theorem Nc(prog:bw)(w:bQ)(i:Int)(t:Vv):(gQ prog w).is (.inl i) (.int i t)=true:=Ur i t
theorem Nb(prog:bw)(w:bQ)(x:Str)(t:Vv):(gQ prog w).is (.inr x) (.str x t)=true:=Uq x t
inductive V where
 |lC|bl (b:Bool)|int (i:Int)|str (x:Str)|OP (b:Array UInt8)|flt (b:UInt64)|ref (a:Addr)|ty (n:String)
 deriving DecidableEq
def RelV:V->aj->Prop
 |.lC,u=>u=vX
 |.bl b,u=>u=pF b
 |.int i,u=>∃t,u=lB i t
 |.str x,u=>∃t,u=L0 x t
 |.OP b,u=>∃t,u=Value.bytes b t
 |.flt b,u=>∃t,u=Value.float b t
 |.ref a,u=>u=eQ a
 |.ty n,u=>u=pE n
abbrev cZ:List V->List aj->Prop:=Paired RelV
theorem cZ.length{xs:List V}{us:List aj}(r:cZ xs us):xs.length=us.length:=Paired.length r
theorem cZ.get:∀ {xs:List V} {us:List aj} {i:Nat} {x:V},cZ xs us->xs[i]? =some x->∃u,us[i]? =some u/\RelV x u
 |_,_,_,_,.nil,e=>by simp at e
 |_,_,0,_,.cons r _,e=>by simp at e;subst e;exact⟨_,rfl,r⟩
 |_,_,i+1,x,.cons _ t,e=>by
  obtain⟨u,h1,h2⟩:=cZ.get (i:=i) (x:=x) t (by simpa using e);exact⟨u,by simpa using h1,h2⟩
theorem cZ.set{x:V}{u:aj}(r:RelV x u):∀ {xs:List V} {us:List aj} (i:Nat),cZ xs us->cZ (xs.set i x) (us.set i u)
 |_,_,_,.nil=>.nil
 |_,_,0,.cons _ t=>.cons r t
 |_,_,i+1,.cons q t=>.cons q (cZ.set r i t)
theorem cZ.append:∀ {xs ys:List V} {us ws:List aj},cZ xs us->cZ ys ws->cZ (xs++ys) (us++ws)
 |_,_,_,_,.nil,s=>s
 |_,_,_,_,.cons r t,s=>.cons r (cZ.append t s)
theorem cZ.take:∀ {xs:List V} {us:List aj} (n:Nat),cZ xs us->cZ (xs.take n) (us.take n)
 |_,_,0,_=>.nil
 |_,_,_+1,.nil=>.nil
 |_,_,n+1,.cons r t=>.cons r (cZ.take n t)
theorem cZ.drop:∀ {xs:List V} {us:List aj} (n:Nat),cZ xs us->cZ (xs.drop n) (us.drop n)
 |_,_,0,r=>r
 |_,_,_+1,.nil=>.nil
 |_,_,n+1,.cons _ t=>cZ.drop n t
theorem cZ.none_of:∀ {xs:List V} {us:List aj} {i:Nat},cZ xs us->xs[i]? =none->us[i]? =none:=fun{xs us i} r e=>by
 have h1:=r.length;have h2:xs.length<=i:=LL.mp e;exact LL.mpr (by omega)
def yU:Option V->Option aj->Prop
 |some v,some u=>RelV v u
 |none,none=>True
 |_,_=>False
def KV{κ:Type}:List (κ×V)->List (κ×aj)->Prop:=Paired fun(p:κ×V) (q:κ×aj)=>p.1=q.1/\RelV p.2 q.2
def kV:Key->V
 |.inl i=>.int i
 |.inr x=>.str x
inductive HO where
  |lst (xs:List V)
  |tup (xs:List V)
  |dK (bx:List (Key×V))|dT (bx:List (List Key×V))
  |set (S:Int->Bool) (n:Nat)
  |ins (C dx:Addr) (fs:List (Str×V))
  |own (x:Addr)
  |xd (fs:List (Str×V))
  |met (f x:Addr)
  |YM (lo hi:Int)
  |nu (o:Obj) (u:HO)
  |tbl (ps:Array aj)
  |ext (φ:Heap->Prop)
abbrev Hp:=Addr->Option HO
def upd(H:Hp)(a:Addr)(o:HO):Hp:=fun b=>if b=a then some o else H b
theorem ak{H:Hp}{a:Addr}{o:HO}:upd H a o a=some o:=by unfold upd;rw[if_pos rfl]
theorem cq{H:Hp}{a b:Addr}{o:HO}(h:b≠a):upd H a o b=H b:=by unfold upd;rw[if_neg h]
theorem uj{H:Hp}{a b:Addr}{o u:HO}(h:H a=some o)(h':H b=some u)(d:o≠u):a≠b:=by
 intro e;subst e;rw[h]at h';exact d (ax h')
theorem aR{H:Hp}{a b:Addr}{o:HO}(h:H a=some o)(h':H b=none):a≠b:=by
 intro e;subst e;rw[h]at h';cases h'
section
variable (P:bw) (w:bQ)
def i9(H:Hp)(h:Heap)(a:Addr):HO->Prop
 |.lst xs=>xs.length<=sizeLine/\∃(dh:List aj) (n:Nat),cZ xs dh/\h.get? a=some {cls:=.type "list",data:=.seq dh.toArray n}
 |.tup xs=>xs.length<=sizeLine/\∃dh:List aj,cZ xs dh/\IsTup h a dh.toArray
 |.dK bx=>bx.length<=sizeLine/\(a==sysModules)=false/\∃vs,KV bx vs/\h.DictOf (gQ P w) a vs
 |.dT bx=>bx.length<=sizeLine/\(a==sysModules)=false/\∃xs:List (List Key×Addr×aj),
   Paired (fun(p:List Key×V) (q:List Key×Addr×aj)=>p.1=q.1/\H q.2.1=some (.tup (p.1.map kV))/\RelV p.2 q.2.2) bx xs/\
   ∃o es ep,h.get? a=some o/\o.ExactDict/\o.data=.dict es ep/\es.toList=xs.map (entryOfKey (tupleKind (gQ P w)))/\(xs.map (·.1)).Nodup
 |.set S n=>h.SetOf (intKind P w) a S n
 |.ins C dx fs=>H dx=some (.own a)/\fs.length<=1000/\dx≠a/\h.get? a=some (iZ C dx)/\
   ∃mA,h.Ns1 dx mA/\(∀f,yU (fs.lookup f) (mA f))/\OF mA (fs.map (·.1))
 |.own _=>∃o,h.get? a=some o
 |.xd fs=>∃mA,h.Ns1 a mA/\∀f,yU (fs.lookup f) (mA f)
 |.YM lo hi=>∃t u v,h.get? a=some {cls:=.type "range",data:=.fields #[.int lo t,.int hi u,.int 1 v]}
 |.nu o u=>h.get? a=some o/\i9 H h a u
 |.tbl ps=>h.get? a=some {cls:=.none,data:=.fields ps}
 |.met f x=>h.get? a=some (BU (.ref f) (.ref x))
 |.ext φ=>φ h/\(∃o,h.get? a=some o)/\∀h1 h2:Heap,φ h1->(∀o,h1.get? a=some o->h2.get? a=some o)->φ h2
def yd(H:Hp)(h:Heap):Prop:=∀a o,H a=some o->i9 P w H h a o
end
section
variable {P:bw} {w:bQ} {H H':Hp} {h h':Heap} {a:Addr} {o:HO}
theorem i9.lt(x:i9 P w H h a o):a<h.objs.size:=by
 cases o with
 |lst xs=>obtain⟨_,_,_,_,e⟩:=x;exact Heap.lt_size e
 |tup xs=>obtain⟨_,_,_,p⟩:=x;exact p.lt
 |dK bx=>obtain⟨_,_,_,_,o,_,_,e,_⟩:=x;exact Heap.lt_size e
 |dT bx=>obtain⟨_,_,_,_,o,_,_,e,_⟩:=x;exact Heap.lt_size e
 |set S n=>obtain⟨o,_,_,_,e,_⟩:=x;exact Heap.lt_size e
 |ins C dx fs=>obtain⟨_,_,_,e,_⟩:=x;exact Heap.lt_size e
 |own y=>obtain⟨_,e⟩:=x;exact Heap.lt_size e
 |xd fs=>obtain⟨_,⟨_,_,_,e,_⟩,_⟩:=x;exact Heap.lt_size e
 |YM lo hi=>obtain⟨_,_,_,e⟩:=x;exact Heap.lt_size e
 |nu ob u=>obtain⟨e,_⟩:=x;exact Heap.lt_size e
 |tbl ps=>exact Heap.lt_size (show h.get? a=some _ from x)
 |met f y=>exact Heap.lt_size (show h.get? a=some _ from x)
 |ext φ=>obtain⟨_,⟨_,e⟩,_⟩:=x;exact Heap.lt_size e
theorem Paired.Xa{α β:Type}{F G:α->β->Prop}:∀ {l₁:List α} {l₂:List β},Paired F l₁ l₂->(∀a b,F a b->G a b)->Paired G l₁ l₂
 |_,_,.nil,_=>.nil
 |_,_,.cons r t,f=>.cons (f _ _ r) (Paired.Xa t f)
theorem i9.FW(x:i9 P w H h a o)(k:∀b u,(b=a\/H b=some (.own a))->h.get? b=some u->h'.get? b=some u)
  (ho:∀b,H b=some (.own a)->H' b=some (.own a))(ht:∀b xs,H b=some (.tup xs)->H' b=some (.tup xs)):i9 P w H' h' a o:=by
 induction o with
 |lst xs=>obtain⟨z,dh,n,r,e⟩:=x;exact⟨z,dh,n,r,k _ _ (.inl rfl) e⟩
 |tup xs=>obtain⟨z,dh,r,ob,e,c⟩:=x;exact⟨z,dh,r,ob,k _ _ (.inl rfl) e,c⟩
 |dK bx=>obtain⟨z,y,vs,r,ob,es,ep,e,c⟩:=x;exact⟨z,y,vs,r,ob,es,ep,k _ _ (.inl rfl) e,c⟩
 |dT bx=>
  obtain⟨z,y,xs,r,ob,es,ep,e,c⟩:=x;exact⟨z,y,xs,Paired.Xa r fun p q z=>⟨z.1,ht _ _ z.2.1,z.2.2⟩,ob,es,ep,k _ _ (.inl rfl) e,c⟩
 |set S n=>obtain⟨ob,es,ep,t,e,c⟩:=x;exact⟨ob,es,ep,t,k _ _ (.inl rfl) e,c⟩
 |ins C dx fs=>
  obtain⟨d,z,ne,e,mA,⟨od,es,ep,e2,c⟩,r⟩:=x;exact⟨ho _ d,z,ne,k _ _ (.inl rfl) e,mA,⟨od,es,ep,k _ _ (.inr d) e2,c⟩,r⟩
 |own y=>obtain⟨ob,e⟩:=x;exact⟨ob,k _ _ (.inl rfl) e⟩
 |xd fs=>obtain⟨mA,⟨od,es,ep,e,c⟩,r⟩:=x;exact⟨mA,⟨od,es,ep,k _ _ (.inl rfl) e,c⟩,r⟩
 |YM lo hi=>obtain⟨t,u,v,e⟩:=x;exact⟨t,u,v,k _ _ (.inl rfl) e⟩
 |nu ob u ih=>obtain⟨e,q⟩:=x;exact⟨k _ _ (.inl rfl) e,ih q⟩
 |tbl ps=>
  have e:h.get? a=some {cls:=.none,data:=.fields ps}:=x;show h'.get? a=some {cls:=.none,data:=.fields ps};exact k a _ (.inl rfl) e
 |met f y=>
  have e:h.get? a=some (BU (.ref f) (.ref y)):=x;show h'.get? a=some (BU (.ref f) (.ref y));exact k a _ (.inl rfl) e
 |ext φ=>obtain⟨p,⟨o,e⟩,st⟩:=x;exact⟨st _ _ p fun o q=>k _ _ (.inl rfl) q,⟨o,k _ _ (.inl rfl) e⟩,st⟩
theorem yd.lt(x:yd P w H h)(e:H a=some o):a<h.objs.size:=(x a o e).lt
theorem yd.fresh(x:yd P w H h)(e:h.objs.size<=a):H a=none:=by
 cases q:H a with
 |none=>rfl
 |some u=>exact absurd (bV (x.lt q) e) (et _)
theorem yd.kept(x:yd P w H h)(k:∀b u,h.get? b=some u->h'.get? b=some u):yd P w H h':=fun a o e=>
 (x a o e).FW (fun b u _ q=>k b u q) (fun _ q=>q) fun _ _ q=>q
theorem yd.laid(x:yd P w H h)(k:∀b u,h.get? b=some u->h'.get? b=some u)(hp:h.objs.size<=a)(new:i9 P w (upd H a o) h' a o):yd P w (upd H a o) h':=fun b u e=>by
 have hn:=x.fresh hp;by_cases hb:b=a
 ·subst hb;rw[ak]at e;cases e;exact new
 ·rw[cq hb]at e;exact(x b u e).FW (fun c v _ q=>k c v q) (fun c q=>by rw[cq (aR q hn)];exact q) fun c xs q=>by rw[cq (aR q hn)];exact q
end
def Rd(H:Hp)(a:Addr)(u:HO):Prop:=H a=some u\/∃o,H a=some (.nu o u)
theorem Rd.ok{P:bw}{w:bQ}{H:Hp}{h:Heap}{a:Addr}{u:HO}(r:Rd H a u)(x:yd P w H h):i9 P w H h a u:=by
 rcases r with r|⟨o,r⟩
 ·exact x a u r
 ·obtain⟨_,q⟩:=x a _ r;exact q
def Mut:Option HO->Prop
 |some (.lst _)=>True
 |some (.dK _)=>True
 |some (.dT _)=>True
 |some (.set _ _)=>True
 |some (.ins _ _ _)=>True
 |some (.ext _)=>True
 |_=>False
section
variable {P:bw} {w:bQ} {H:Hp} {h h':Heap} {x e:Addr} {o':HO}
theorem yd.write(ok:yd P w H h)(mu:Mut (H x))(he:e=x\/H e=some (.own x))(k:∀b u,b≠e->h.get? b=some u->h'.get? b=some u)(heo:∃u,h'.get? e=some u)
  (new:i9 P w (upd H x o') h' x o'):yd P w (upd H x o') h':=fun b u q=>by
 have afe:∀c y,H c=some (.own y)->c≠x:=fun c y r z=>by subst z;rw[r]at mu;exact mu
 have ahS:∀c xs,H c=some (.tup xs)->c≠x:=fun c xs r z=>by subst z;rw[r]at mu;exact mu
 by_cases hb:b=x
 ·subst hb;rw[ak]at q;cases q;exact new
 ·rw[cq hb]at q;by_cases Ql:b=e
  ·have q':H b=some (.own x):=by
    rcases he with z|z
    ·exact absurd (Ql.trans z) hb
    ·rw[Ql];exact z
   rw[q]at q';cases q';obtain⟨v,hv⟩:=heo;exact⟨v,by rw[Ql];exact hv⟩
  ·refine(ok b u q).FW (fun c v hc r=>k c v ?_ r) (fun c r=>by rw[cq (afe c b r)];exact r) fun c xs r=>by rw[cq (ahS c xs r)];exact r
   rcases hc with rfl|hc
   ·exact Ql
   ·rintro rfl;rcases he with z|z
    ·exact afe c b hc z
    ·rw[hc]at z;cases z;exact hb rfl
end
structure Un(fs ex:List Addr)(H H':Hp)(h h':Heap):Prop where
 keep:∀b o,h.get? b=some o->H b=none->b∉fs->b∉ex->h'.get? b=some o
 slot:∀b o,h.get? b=some o->H b=none->b∈fs->b∉ex->∃sl,h'.get? b=some {o with slots:=sl}
 free:∀b o,h.get? b=some o->H b=none->b∉ex->H' b=none
 there:∀b o,h.get? b=some o->b∉ex->∃o',h'.get? b=some o'
 J5:∀b xs,H b=some (.tup xs)->H' b=some (.tup xs)
 Hc:∀b o u,H b=some (.nu o u)->H' b=some (.nu o u)
 J6:∀b ps,H b=some (.tbl ps)->∃more,H' b=some (.tbl (ps++more))
section
variable {fs YY ex ex':List Addr} {H H1 H2:Hp} {h h1 h2 h':Heap} {a x e:Addr} {o:HO}
theorem Un.any(u:Un fs ex H H1 h h1){b:Addr}{ob:Obj}(q:h.get? b=some ob)(n:H b=none)(hx:b∉ex):∃sl,h1.get? b=some {ob with slots:=sl}:=by
 by_cases hb:b∈fs
 ·exact u.slot b ob q n hb hx
 ·exact⟨ob.slots,u.keep b ob q n hb hx⟩
theorem Un.kept(k:∀b u,h.get? b=some u->h'.get? b=some u):Un fs ex H H h h':=
 ⟨fun b ob q _ _ _=>k b ob q,fun b ob q _ _ _=>⟨ob.slots,k b ob q⟩,fun _ _ _ n _=>n,fun b ob q _=>⟨ob,k b ob q⟩,fun _ _ q=>q,fun _ _ _ q=>q,fun _ ps q=>⟨#[],by rw[q];simp⟩⟩
theorem Un.refl:Un fs ex H H h h:=Un.kept fun _ _ q=>q
theorem Un.laid(k:∀b u,h.get? b=some u->h'.get? b=some u)(hp:h.objs.size<=a)(hn:H a=none):Un fs ex H (upd H a o) h h' where
 keep:=fun b u q _ _ _=>k b u q
 slot:=fun b u q _ _ _=>⟨u.slots,k b u q⟩
 free:=fun b u q n _=>by rw[cq (bE (bV (Heap.lt_size q) hp))];exact n
 there:=fun b u q _=>⟨u,k b u q⟩
 J5:=fun b xs q=>by rw[cq (aR q hn)];exact q
 Hc:=fun b u xs q=>by rw[cq (aR q hn)];exact q
 J6:=fun b ps q=>⟨#[],by rw[cq (aR q hn),q];simp⟩
theorem Un.write(mu:Mut (H x))(he:e=x\/H e=some (.own x))(k:∀b u,b≠e->h.get? b=some u->h'.get? b=some u)(heo:∃u,h'.get? e=some u):Un fs ex H (upd H x o) h h':=by
 have hx:∀b,H b=none->b≠x:=fun b n z=>by subst z;rw[n]at mu;exact mu
 have hb:∀b,H b=none->b≠e:=fun b n z=>by
  subst z;rcases he with r|r
  ·exact hx b n r
  ·rw[n]at r;cases r
 have hm:∀b u,H b=some u->¬Mut (some u)->b≠x:=fun b u q nm z=>by subst z;rw[q]at mu;exact nm mu
 refine⟨fun b u q n _ _=>k b u (hb b n) q,fun b u q n _ _=>⟨u.slots,k b u (hb b n) q⟩,fun b u q n _=>by rw[cq (hx b n)];exact n,fun b u q _=>?_,
  fun b xs q=>by rw[cq (hm b _ q fun z=>z)];exact q,fun b u xs q=>by rw[cq (hm b _ q fun z=>z)];exact q,fun b ps q=>⟨#[],by rw[cq (hm b _ q fun z=>z),q];simp⟩⟩
 by_cases Ql:b=e
 ·subst Ql;exact heo
 ·exact⟨u,k b u Ql q⟩
end
def trk(h:Heap)(H:Hp):List Addr:=(aG h.objs.size).filter fun a=>(H a).isSome
def K4(h:Heap)(H:Hp):Heap:=PySem.W.hideAll h (trk h H)
theorem Uy(h:Heap)(H:Hp):(K4 h H).objs.size=h.objs.size:=PySem.W.hideAll_size _ _
theorem Xz{h:Heap}{H:Hp}{b:Addr}{o:Obj}(e:h.get? b=some o)(n:H b=none):(K4 h H).get? b=some o:=
 PySem.W.hideAll_get _ e fun hm=>by
  have q:(H b).isSome=true:=(dm.mp hm).2;rw[n]at q;simp at q
theorem ZT{h:Heap}{H:Hp}{b:Addr}{o:Obj}(e:(K4 h H).get? b=some o):h.get? b=some o/\H b=none:=by
 have e':h.get? b=some o:=PySem.W.of_hideAll (trk h H) e;refine⟨e',?_⟩;cases q:H b with
 |none=>rfl
 |some x=>
  have hm:b∈trk h H:=dm.mpr ⟨bG.mpr (Heap.lt_size e'),by simp[q]⟩;have z:(K4 h H).get? b=none:=PySem.W.hideAll_none (trk h H) hm;rw[z]at e;cases e
structure Mod(K:aq)(mg:Str->Option aj)(base:Heap):Prop where
 kin:K.In base
 glob:base.Ns mainGlobals mg
 blt:∃mb,base.Ns builtinsNs mb/\∀x:Str,x≠ "__name__" ->mb x=bootBuiltins x
 nolimit:base.NoLimit
structure Cx where
 prog:bw
 w:bQ
 K:aq
 mg:Str->Option aj
 base:Heap
 A:cR
 N:List Str
 II:au
 H_0:Hp
 env:OG
 outer:List OG
 stack:List OG
 ex:List Addr
 fn:Str->Bool
 calm:Bool
 pn:List (Addr×Obj)
 xe:aj->au->Prop
def XQ(l:List OG):List Addr:=l.filterMap (·.frame)
abbrev Cx.fs(X:Cx):List Addr:=XQ X.outer
def Vis(sc:Scope)(x:Str):Prop:=sc.names.lookup x=some .local\/sc.names.lookup x=some .cell\/sc.names.lookup x=some .free
def Loc(sc:Scope)(x:Str):Prop:=sc.names.lookup x=some .local\/sc.names.lookup x=some .cell
def Look(env:OG)(h:Heap)(m:Str->Option aj)(x:Str)(u:aj):Prop:=(env.kindOf x=some .local/\m x=some u)\/((env.kindOf x=some .cell\/env.kindOf x=some .free)/\∃c,env.cells.lookup x=some c/\h.IsCell c (some u))
structure Cx.Ok(X:Cx):Prop where
 mod:Mod X.K X.mg X.base
 kind:X.env.scope.kind=.function
 glob:X.env.globals=mainGlobals
 blt:X.env.builtins=builtinsNs
 above:X.II.heap.objs.size<=X.env.locals
 inj:∀x y c,X.env.cells.lookup x=some c->X.env.cells.lookup y=some c->x=y
 has:∀x,(X.env.kindOf x=some .cell\/X.env.kindOf x=some .free)->∃c,X.env.cells.lookup x=some c
 cab:∀x c,X.fn x=true->X.env.cells.lookup x=some c->X.II.heap.objs.size<=c
 hd:X.calm=true->X.A.handled=none
 frames:X.A.frames=some X.stack
 stk:X.stack=X.outer\/(X.stack=X.env::X.outer/\X.env.frame=some X.env.locals)
 exf:∀b∈X.ex,b≠X.env.locals/\∀x c,X.env.cells.lookup x=some c->c≠b
 bs:∀b o,X.base.get? b=some o->X.II.heap.get? b=some o/\X.H_0 b=none
 bsz:X.base.objs.size<=X.II.heap.objs.size
 W2:∀b o,X.base.get? b=some o->b∉X.ex
 XU:∀b∈X.ex,b∉X.fs
 EI:X.II.heap.FunFrames X.base X.outer
 frf:∀b∈X.fs,X.H_0 b=none
structure Inv(X:Cx)(pins:List (Addr×Obj))(σ:List (Option V))(H:Hp)(s:au):Prop where
 ok:X.Ok
 os:s.os=X.II.os
 bare:Ir s.gens
 base:Un X.fs X.ex X.H_0 H X.II.heap s.heap
 loc:∃m,s.heap.Ns X.env.locals m/\∀(i:Nat) (x:Str) (v:V),X.N[i]? =some x->σ[i]? =some (some v)->Vis X.env.scope x->∃u,RelV v u/\Look X.env s.heap m x u
 cell:∀x c,X.env.cells.lookup x=some c->∃v,s.heap.IsCell c v
 free:H X.env.locals=none
 um:∀x c,X.env.cells.lookup x=some c->H c=none
 pin:∀p∈X.pn++pins,s.heap.get? p.1=some p.2/\H p.1=none/\p.1≠X.env.locals/\p.1∉X.fs/\∀v,p.2.data≠ .cell v
 gR:yd X.prog X.w H s.heap
 len:σ.length=X.N.length
section
variable {X:Cx} {pins:List (Addr×Obj)} {σ:List (Option V)} {H H':Hp} {s:au} {h':Heap}
theorem Cx.Ok.ahV(ok:X.Ok){b:Addr}{o:Obj}(e:X.base.get? b=some o):b∉X.fs:=fun hb=>by
 have:=(ok.EI.mem hb).1;rw[e]at this;cases this
theorem Inv.bs(I:Inv X pins σ H s):∀b o,X.base.get? b=some o->s.heap.get? b=some o/\H b=none:=fun b o e=>
 ⟨I.base.keep b o (I.ok.bs b o e).1 (I.ok.bs b o e).2 (I.ok.ahV e) (I.ok.W2 b o e),I.base.free b o (I.ok.bs b o e).1 (I.ok.bs b o e).2 (I.ok.W2 b o e)⟩
theorem Inv.bk(I:Inv X pins σ H s):∀b o,X.base.get? b=some o->s.heap.get? b=some o:=fun b o e=>(I.bs b o e).1
theorem Inv.mod(I:Inv X pins σ H s):Mod X.K X.mg X.base:=I.ok.mod
theorem Inv.Nr(I:Inv X pins σ H s):X.K.In s.heap:=I.ok.mod.kin.keeps I.bk
theorem Inv.lt(I:Inv X pins σ H s):X.env.locals<s.heap.objs.size:=let ⟨_,hn,_⟩:=I.loc;hn.lt
theorem Inv.sz(I:Inv X pins σ H s):X.II.heap.objs.size<=s.heap.objs.size:=bN I.ok.above (rO I.lt)
theorem Inv.ahU(I:Inv X pins σ H s){a:Addr}(h:s.heap.objs.size<=a):a∉X.fs:=fun hb=>by
 obtain⟨_,o,ho,_⟩:=I.ok.EI.mem hb;exact absurd (bV (Heap.lt_size ho) (bN I.sz h)) (et _)
theorem Inv.cne(I:Inv X pins σ H s):∀x c,X.env.cells.lookup x=some c->c≠X.env.locals:=fun x c e z=>by
 obtain⟨v,o,ho,hd⟩:=I.cell x c e;obtain⟨m,⟨o',es,ep,Vn,Uz,_⟩,_⟩:=I.loc;rw[z,Vn]at ho;cases ho;rw[Uz]at hd;cases hd
theorem Inv.EI(I:Inv X pins σ H s):s.heap.FunFrames X.base X.outer:=by
 have all:∀(l:List OG),(∀b∈XQ l,b∈X.fs)->X.II.heap.FunFrames X.base l->s.heap.FunFrames X.base l:=by
  intro l;induction l with
  |nil=>intro _ _;trivial
  |cons env r ih=>
   intro hs hl;obtain⟨hk,⟨L,o,hf,hn,ho,hd⟩,hr⟩:=hl;have hL:L∈X.fs:=hs L (by unfold XQ;rw[gD,hf];exact ah);obtain⟨sl,e⟩:=I.base.slot L o ho (I.ok.frf L hL) hL fun z=>I.ok.XU L z hL
   exact⟨hk,⟨L,_,hf,hn,e,hd⟩,ih (fun b hb=>hs b (by unfold XQ;rw[gD,hf];exact aA _ hb)) hr⟩
 exact all X.outer (fun _ hb=>hb) I.ok.EI
theorem Inv.stack(I:Inv X pins σ H s):s.heap.FunFrames X.base X.stack:=by
 rcases I.ok.stk with e|⟨e,hf⟩
 ·rw[e];exact I.EI
 ·rw[e];obtain⟨m,hn,_⟩:=I.loc;refine .cons (by rw[I.ok.kind];decide) hf hn ?_ I.EI;exact Heap.get?_none_of_le (bN I.ok.bsz I.ok.above)
theorem Inv.Pa(I:Inv X pins σ H s):∀b∈XQ X.stack,b∈X.env.locals::X.fs:=fun b hb=>by
 rcases I.ok.stk with e|⟨e,hf⟩
 ·rw[e]at hb;exact aA _ hb
 ·rw[e]at hb;unfold XQ at hb;rw[gD,hf]at hb;exact hb
theorem Inv.Q8(I:Inv X pins σ H s):∀b∈XQ X.stack,H b=none:=fun b hb=>by
 rcases aM.mp (I.Pa b hb)with e|hb
 ·rw[e];exact I.free
 ·obtain⟨_,o,ho,_⟩:=I.ok.EI.mem hb;exact I.base.free b o ho (I.ok.frf b hb) fun z=>I.ok.XU b z hb
theorem Inv.step{g':Array GenState}{t':Nat}{d':Drawn}{ch:List Addr}(I:Inv X pins σ H s)
  (YX:∀b∈ch,(b∈X.ex\/X.II.heap.objs.size<=b)/\b≠X.env.locals/\(∀x c,X.env.cells.lookup x=some c->c≠b)/\∀p∈X.pn++pins,p.1≠b)
  (keep:∀b o,b≠X.env.locals->b∉X.fs->b∉ch->s.heap.get? b=some o->H b=none->h'.get? b=some o)
  (slot:∀b o,b≠X.env.locals->b∈X.fs->b∉ch->s.heap.get? b=some o->H b=none->∃sl,h'.get? b=some {o with slots:=sl})(free:∀b o,b∉ch->s.heap.get? b=some o->H b=none->H' b=none)
  (there:∀b o,b∉ch->s.heap.get? b=some o->∃o',h'.get? b=some o')
  (J5:∀b xs,H b=some (.tup xs)->H' b=some (.tup xs))(Hc:∀b o u,H b=some (.nu o u)->H' b=some (.nu o u))(J6:∀b ps,H b=some (.tbl ps)->∃more,H' b=some (.tbl (ps++more)))
  (ns:∀m,s.heap.Ns X.env.locals m->h'.Ns X.env.locals m)(gR:yd X.prog X.w H' h')(hg:Ir g'):
  Inv X pins σ H' {s with heap:=h',gens:=g',drawn:=d',toks:=t'}:=by
 have neL:∀b o,X.II.heap.get? b=some o->b≠X.env.locals:=fun b o e=>bE (bV (Heap.lt_size e) I.ok.above)
 have neC:∀b o,X.II.heap.get? b=some o->b∉X.ex->b∉ch:=fun b o e hx hb=>by
  rcases(YX b hb).1 with z|z
  ·exact hx z
  ·exact absurd (bV (Heap.lt_size e) z) (et _)
 have cellK:∀x c,X.env.cells.lookup x=some c->∀v,s.heap.IsCell c v->h'.IsCell c v:=fun x c e v ⟨o,ho,hd⟩=>by
  have nch:c∉ch:=fun z=>(YX c z).2.2.1 x c e rfl
  by_cases hc:c∈X.fs
  ·obtain⟨sl,q⟩:=slot c o (I.cne x c e) hc nch ho (I.um x c e);exact⟨_,q,hd⟩
  ·exact⟨o,keep c o (I.cne x c e) hc nch ho (I.um x c e),hd⟩
 refine⟨I.ok,I.os,hg,⟨fun b o e n hb hx=>?_,fun b o e n hb hx=>?_,fun b o e n hx=>?_,fun b o e hx=>?_,fun b xs e=>J5 b xs (I.base.J5 b xs e),fun b o xs e=>Hc b o xs (I.base.Hc b o xs e),fun b ps e=>?_⟩,?_,fun x c e=>?_,?_,fun x c e=>?_,fun p hp=>?_,gR,I.len⟩
 ·exact keep b o (neL b o e) hb (neC b o e hx) (I.base.keep b o e n hb hx) (I.base.free b o e n hx)
 ·obtain⟨sl,e1⟩:=I.base.slot b o e n hb hx;obtain⟨sl',e2⟩:=slot b _ (neL b o e) hb (neC b o e hx) e1 (I.base.free b o e n hx);exact⟨sl',e2⟩
 ·obtain⟨o',e1⟩:=I.base.there b o e hx;exact free b o' (neC b o e hx) e1 (I.base.free b o e n hx)
 ·obtain⟨o',e1⟩:=I.base.there b o e hx;exact there b o' (neC b o e hx) e1
 ·obtain⟨m1,e1⟩:=I.base.J6 b ps e;obtain⟨m2,e2⟩:=J6 b _ e1;exact⟨m1++m2,by rw[e2,Array.append_assoc]⟩
 ·obtain⟨m,hn,hl⟩:=I.loc;refine⟨m,ns m hn,fun i x v e1 e2 e3=>?_⟩;obtain⟨u,r,l⟩:=hl i x v e1 e2 e3;refine⟨u,r,?_⟩;rcases l with l|⟨k,c,e,z⟩
  ·exact .inl l
  ·exact .inr ⟨k,c,e,cellK x c e _ z⟩
 ·obtain⟨v,z⟩:=I.cell x c e;exact⟨v,cellK x c e v z⟩
 ·obtain⟨m,⟨o,_,_,ho,_⟩,_⟩:=I.loc;exact free _ o (fun z=>(YX _ z).2.1 rfl) ho I.free
 ·obtain⟨v,o,ho,hd⟩:=I.cell x c e;exact free c o (fun z=>(YX c z).2.2.1 x c e rfl) ho (I.um x c e)
 ·obtain⟨e,n,ne,nf,d⟩:=I.pin p hp;have nch:p.1∉ch:=fun z=>(YX p.1 z).2.2.2 p hp rfl
  exact⟨keep p.1 p.2 ne nf nch e n,free p.1 p.2 nch e n,ne,nf,d⟩
theorem Inv.un{t':Nat}(I:Inv X pins σ H s)(u:Un X.fs [] H H' s.heap h')(gR:yd X.prog X.w H' h'):Inv X pins σ H' {s with heap:=h',toks:=t'}:=by
 obtain⟨m,⟨o,es,ep,ho,r⟩,_⟩:=id I.loc;obtain⟨sl,hL⟩:=u.any ho I.free (by simp);exact I.step (g':=s.gens) (d':=s.drawn) (ch:=[]) (fun _ z=>nomatch z) (fun b o _ hb _ e n=>u.keep b o e n hb (by simp)) (fun b o _ hb _ e n=>u.slot b o e n hb (by simp)) (fun b o _ e n=>u.free b o e n (by simp)) (fun b o _ e=>u.there b o e (by simp)) u.J5 u.Hc u.J6 (fun m' hm=>by
  obtain⟨o',es',rM,Vn,r'⟩:=hm;rw[ho]at Vn;cases Vn;exact⟨_,es',rM,hL,r'⟩) gR I.bare
theorem Inv.call{g':Array GenState}{t':Nat}{d':Drawn}{ch:List Addr}(I:Inv X pins σ H s)(u:Un (XQ X.stack) ch H H' s.heap h')(gR:yd X.prog X.w H' h')(hg:Ir g')
  (YX:∀b∈ch,(b∈X.ex\/X.II.heap.objs.size<=b)/\b≠X.env.locals/\(∀x c,X.env.cells.lookup x=some c->c≠b)/\∀p∈X.pn++pins,p.1≠b):
  Inv X pins σ H' {s with heap:=h',gens:=g',drawn:=d',toks:=t'}:=by
 obtain⟨m,⟨o,es,ep,ho,r⟩,_⟩:=id I.loc;obtain⟨sl,hL⟩:=u.any ho I.free fun z=>(YX _ z).2.1 rfl
 exact I.step (ch:=ch) YX (fun b o hL hb hc e n=>u.keep b o e n (fun z=>(aM.mp (I.Pa b z)).elim hL hb) hc) (fun b o _ _ hc e n=>u.any e n hc) (fun b o hc e n=>u.free b o e n hc) (fun b o hc e=>u.there b o e hc) u.J5 u.Hc u.J6 (fun m' hm=>by
  obtain⟨o',es',rM,Vn,r'⟩:=hm;rw[ho]at Vn;cases Vn;exact⟨_,es',rM,hL,r'⟩) gR hg
theorem Inv.turned{t':Nat}{it:Addr}(I:Inv X pins σ H s)(k:∀b o,b≠it->s.heap.get? b=some o->h'.get? b=some o)(hn:H it=none)(hL:it≠X.env.locals)
  (h1:it∈X.ex\/X.II.heap.objs.size<=it)(h2:∀x c,X.env.cells.lookup x=some c->c≠it)(h3:∀p∈X.pn++pins,p.1≠it):Inv X pins σ H {s with heap:=h',toks:=t'}:=by
 have nit:∀b u,H b=some u->b≠it:=fun b u e z=>by rw[z,hn]at e;cases e
 refine I.step (g':=s.gens) (d':=s.drawn) (ch:=[it]) (fun b hb=>?_) (fun b o _ _ hc e _=>k b o (fun z=>hc (by simp[z])) e) (fun b o _ _ hc e _=>⟨o.slots,k b o (fun z=>hc (by simp[z])) e⟩) (fun _ _ _ _ n=>n)
  (fun b o hc e=>⟨o,k b o (fun z=>hc (by simp[z])) e⟩) (fun _ _ e=>e) (fun _ _ _ e=>e) (fun b ps e=>⟨#[],by rw[e];simp⟩) (fun m hm=>?_) (fun b u e=>?_) I.bare
 ·have e:b=it:=by simpa using hb
  subst e;exact⟨h1,hL,h2,h3⟩
 ·obtain⟨o,es,ep,ho,r⟩:=hm;exact⟨o,es,ep,k _ o (bT hL) ho,r⟩
 ·refine(I.gR b u e).FW (fun c v hc q=>k c v ?_ q) (fun _ q=>q) fun _ _ q=>q
  rcases hc with z|z
  ·rw[z];exact nit b u e
  ·exact nit c _ z
theorem Inv.tok(I:Inv X pins σ H s)(t:Nat):Inv X pins σ H {s with toks:=t}:=I.un (h':=s.heap) (t':=t) Un.refl I.gR
theorem Inv.kept{t':Nat}(I:Inv X pins σ H s)(k:∀b u,s.heap.get? b=some u->h'.get? b=some u):Inv X pins σ H {s with heap:=h',toks:=t'}:=I.un (Un.kept k) (I.gR.kept k)
theorem Inv.laid{a:Addr}{o:HO}{t':Nat}(I:Inv X pins σ H s)(k:∀b u,s.heap.get? b=some u->h'.get? b=some u)(hp:s.heap.objs.size<=a)(new:i9 X.prog X.w (upd H a o) h' a o):
  Inv X pins σ (upd H a o) {s with heap:=h',toks:=t'}:=I.un (Un.laid k hp (I.gR.fresh hp)) (I.gR.laid k hp new)
theorem Inv.write{x e:Addr}{o:HO}{t':Nat}(I:Inv X pins σ H s)(mu:Mut (H x))(he:e=x\/H e=some (.own x))(k:∀b u,b≠e->s.heap.get? b=some u->h'.get? b=some u)(heo:∃u,h'.get? e=some u)
  (new:i9 X.prog X.w (upd H x o) h' x o):Inv X pins σ (upd H x o) {s with heap:=h',toks:=t'}:=I.un (Un.write mu he k heo) (I.gR.write mu he k heo new)
theorem Inv.weak{σ':List (Option V)}(I:Inv X pins σ H s)(hl:σ'.length=σ.length)(w:∀(i:Nat) v,σ'[i]? =some (some v)->σ[i]? =some (some v)):Inv X pins σ' H s:=
 ⟨I.ok,I.os,I.bare,I.base,let ⟨m,hn,YT⟩:=I.loc;⟨m,hn,fun i x v e1 e2 e3=>YT i x v e1 (w i v e2) e3⟩,I.cell,I.free,I.um,I.pin,I.gR,hl.trans I.len⟩
theorem Inv.RC{abe:List (Addr×Obj)}(I:Inv X pins σ H s)(h:∀p∈abe,s.heap.get? p.1=some p.2/\H p.1=none/\p.1≠X.env.locals/\p.1∉X.fs/\∀v,p.2.data≠ .cell v):Inv X abe σ H s:=
 ⟨I.ok,I.os,I.bare,I.base,I.loc,I.cell,I.free,I.um,fun p hp=>(aH.mp hp).elim (fun z=>I.pin p (SY _ z)) (h p),I.gR,I.len⟩
theorem GK{N:List Str}(hN:N.Nodup){i j:Nat}{x:Str}(a:N[i]? =some x)(b:N[j]? =some x):i=j:=by
 obtain⟨h1,e1⟩:=aw.mp a;obtain⟨h2,e2⟩:=aw.mp b;exact(FA hN).mp (e1.trans e2.symm)
theorem IF{M:Model}{A:cR}{E:aj->au->Prop}{i:Nat}{x:Str}{v:V}{u:aj}{Q:Unit->au->Prop}(I:Inv X pins σ H s)(hN:X.N.Nodup)(hi:X.N[i]? =some x)(hx:Loc X.env.scope x)(r:RelV v u)
  (h:∀s',Inv X pins (σ.set i (some v)) H s'->(∃a,Heap.SameBut a s.heap s'.heap/\(a=X.env.locals\/X.env.cells.lookup x=some a))->Q () s')(hf:X.fn x=true\/X.env.scope.names.lookup x=some .local:=by first|exact .inl rfl|exact .inr rfl|assumption):wpAny M A (storeName X.env x u) Q E s:=by
 obtain⟨m,hn,hl⟩:=id I.loc;have aiU:(X.env.scope.kind== .class||(X.env.scope.kind== .module&&X.env.locals != X.env.globals))=false:=by rw[I.ok.kind];rfl
 have hiσ:i<σ.length:=by rw[I.len];exact(aw.mp hi).1
 have cne:=I.cne;have tracked:∀ {a:Addr} {h':Heap},(∃o,s.heap.get? a=some o/\H a=none)->Heap.SameBut a s.heap h'->yd X.prog X.w H h':=fun{a h'} ha hs b ob e=>by
  obtain⟨_,_,Js⟩:=ha;refine(I.gR b ob e).FW (fun c w' hc q=>(hs.2 c ?_).trans q) (fun _ q=>q) fun _ _ q=>q
  rintro rfl;rcases hc with rfl|hc
  ·rw[Js]at e;cases e
  ·rw[Js]at hc;cases hc
 rcases hx with hk|hk
 ·refine wpAny_storeName_local hk hn (fun h' hn' hs=>?_) aiU;obtain⟨oL,_,_,hoL,_⟩:=id hn;refine h _ ⟨I.ok,I.os,I.bare,⟨fun b o e n hb hx=>?_,fun b o e n hb hx=>?_,I.base.free,fun b o e hx=>?_,I.base.J5,I.base.Hc,I.base.J6⟩,⟨_,hn',fun j y v' e1 e2 e3=>?_⟩,fun y c e=>?_,I.free,I.um,fun p hp=>?_,tracked ⟨oL,hoL,I.free⟩ hs,by simpa using I.len⟩ ⟨_,hs,.inl rfl⟩
  ·exact(hs.2 b (bE (bV (Heap.lt_size e) I.ok.above))).trans (I.base.keep b o e n hb hx)
  ·obtain⟨sl,e1⟩:=I.base.slot b o e n hb hx;exact⟨sl,(hs.2 b (bE (bV (Heap.lt_size e) I.ok.above))).trans e1⟩
  ·obtain⟨o',e1⟩:=I.base.there b o e hx;exact⟨o',(hs.2 b (bE (bV (Heap.lt_size e) I.ok.above))).trans e1⟩
  ·by_cases hj:j=i
   ·subst hj;rw[hi]at e1;cases e1;rw[oj hiσ]at e2;cases e2;exact⟨u,r,.inl ⟨hk,by simp⟩⟩
   ·rw[p7 (bT hj)]at e2;obtain⟨u',r',q⟩:=hl j y v' e1 e2 e3;refine⟨u',r',?_⟩;rcases q with ⟨k,e⟩|⟨k,c,e,z⟩
    ·refine .inl ⟨k,?_⟩;have:y≠x:=fun e=>hj (GK hN e1 (e▸hi))
     simp[this,e]
    ·exact .inr ⟨k,c,e,z.sameBut hs (cne y c e)⟩
  ·obtain⟨w',z⟩:=I.cell y c e;exact⟨w',z.sameBut hs (cne y c e)⟩
  ·obtain⟨e,n,ne,nf,d⟩:=I.pin p hp;exact⟨(hs.2 p.1 ne).trans e,n,ne,nf,d⟩
 ·have hfn:X.fn x=true:=by
   rcases hf with z|z
   ·exact z
   ·rw[z]at hk;cases hk
  obtain⟨c,hc⟩:=I.ok.has x (.inl hk);obtain⟨w',z⟩:=I.cell x c hc;refine wpAny_storeName_cell I.ok.kind hk hc z (fun h' Sg hs=>?_);obtain⟨oc,hoc,ais⟩:=id z;refine h {s with heap:=h'} ⟨I.ok,I.os,I.bare,⟨fun b o e n hb hx=>?_,fun b o e n hb hx=>?_,I.base.free,fun b o e hx=>?_,I.base.J5,I.base.Hc,I.base.J6⟩,⟨m,hn.sameBut hs (bT (cne x c hc)),fun j y v' e1 e2 e3=>?_⟩,fun y c' e=>?_,I.free,I.um,fun p hp=>?_,tracked ⟨oc,hoc,I.um x c hc⟩ hs,by simpa using I.len⟩ ⟨c,hs,.inr hc⟩
  ·exact(hs.2 b (bE (bV (Heap.lt_size e) (I.ok.cab x c hfn hc)))).trans (I.base.keep b o e n hb hx)
  ·obtain⟨sl,e1⟩:=I.base.slot b o e n hb hx;exact⟨sl,(hs.2 b (bE (bV (Heap.lt_size e) (I.ok.cab x c hfn hc)))).trans e1⟩
  ·obtain⟨o',e1⟩:=I.base.there b o e hx;exact⟨o',(hs.2 b (bE (bV (Heap.lt_size e) (I.ok.cab x c hfn hc)))).trans e1⟩
  ·by_cases hj:j=i
   ·subst hj;rw[hi]at e1;cases e1;rw[oj hiσ]at e2;cases e2;exact⟨u,r,.inr ⟨.inl hk,c,hc,Sg⟩⟩
   ·rw[p7 (bT hj)]at e2;obtain⟨u',r',q⟩:=hl j y v' e1 e2 e3;refine⟨u',r',?_⟩;rcases q with q|⟨k,c',e,z'⟩
    ·exact .inl q
    ·refine .inr ⟨k,c',e,z'.sameBut hs ?_⟩;rintro rfl;exact hj (GK hN e1 (I.ok.inj _ _ _ e hc▸hi))
  ·by_cases hcc:c'=c
   ·subst hcc;exact⟨_,Sg⟩
   ·obtain⟨w2,z2⟩:=I.cell y c' e;exact⟨w2,z2.sameBut hs hcc⟩
  ·obtain⟨e,n,ne,nf,d⟩:=I.pin p hp;refine⟨(hs.2 p.1 ?_).trans e,n,ne,nf,d⟩;intro q;rw[q,hoc]at e;have q':oc=p.2:=ax e;exact d w' (by rw[<-q'];exact ais)
theorem Ml{M:Model}{A:cR}{E:aj->au->Prop}{i:Nat}{x:Str}{v:V}{u:aj}{Q:Unit->au->Prop}(I:Inv X pins σ H s)(hN:X.N.Nodup)(hi:X.N[i]? =some x)(hx:Loc X.env.scope x)(r:RelV v u)
  (h:∀s',Inv X pins (σ.set i (some v)) H s'->Q () s')(hf:X.fn x=true\/X.env.scope.names.lookup x=some .local:=by first|exact .inl rfl|exact .inr rfl|assumption):wpAny M A (storeName X.env x u) Q E s:=
 IF I hN hi hx r (fun s' I' _=>h s' I') hf
theorem Inv.agq{s':au}{ch:List Addr}(I:Inv X pins σ H s)(ho:s'.os=s.os)(u:Un (XQ X.stack) ch H H' s.heap s'.heap)(gR:yd X.prog X.w H' s'.heap)(hg:Ir s'.gens)
  (YX:∀b∈ch,(b∈X.ex\/X.II.heap.objs.size<=b)/\b≠X.env.locals/\(∀x c,X.env.cells.lookup x=some c->c≠b)/\∀p∈X.pn++pins,p.1≠b):Inv X pins σ H' s':=by
 obtain⟨h',g',d',t',o'⟩:=s';have e:o'=s.os:=ho;subst e;exact I.call (g':=g') (t':=t') (d':=d') u gR hg YX
end
abbrev XK:=aj->Option Addr->Hp->Prop
abbrev St:=List (Option V)
abbrev VK:=V->Hp->Prop
abbrev TE:=St->Hp->VK->Prop
abbrev TT:=St->Hp->(Bool->Hp->Prop)->Prop
abbrev TA:=St->Hp->(List V->Hp->Prop)->Prop
structure Ends where
 nx:St->Hp->Prop
 rt:VK
 bk:St->Hp->Prop:=fun _ _=>False
 ct:St->Hp->Prop:=fun _ _=>False
abbrev TS:=Ends->St->Hp->Prop
def EP(X:Cx)(pins:List (Addr×Obj))(σ:St)(Q:VK)(u:aj)(s':au):Prop:=E2 fun v H'=>A3 (Inv X pins σ H' s') (RelV v u) (Q v H')
def TP(X:Cx)(pins:List (Addr×Obj))(σ:St)(Q:Bool->Hp->Prop)(b:Bool)(s':au):Prop:=∃H',Inv X pins σ H' s'/\Q b H'
def AP(X:Cx)(pins:List (Addr×Obj))(σ:St)(Q:List V->Hp->Prop)(us:List aj)(s':au):Prop:=E2 fun vs H'=>A3 (Inv X pins σ H' s') (cZ vs us) (Q vs H')
def SP(X:Cx)(pins:List (Addr×Obj))(D:Ends)(f:Flow)(s':au):Prop:=
 match f with
 |.next=>∃σ' H',Inv X pins σ' H' s'/\D.nx σ' H'
 |.brk=>∃σ' H',Inv X pins σ' H' s'/\D.bk σ' H'
 |.cont=>∃σ' H',Inv X pins σ' H' s'/\D.ct σ' H'
 |.ret u=>∃v σ' H',Inv X pins σ' H' s'/\RelV v u/\D.rt v H'
def PE(X:Cx)(e:de)(t:TE):Prop:=
 ∀(pins:List (Addr×Obj)) (s:au) (σ:St) (H:Hp) (Q:VK),Inv X pins σ H s->t σ H Q->wpAny (model X.prog X.w) X.A (eval e X.env) (EP X pins σ Q) X.xe s
def PT(X:Cx)(e:de)(t:TT):Prop:=
 ∀(pins:List (Addr×Obj)) (s:au) (σ:St) (H:Hp) (Q:Bool->Hp->Prop),Inv X pins σ H s->t σ H Q->wpAny (model X.prog X.w) X.A (isTrue e X.env (eval e X.env)) (TP X pins σ Q) X.xe s
def PW(X:Cx)(e:de)(t:TT):Prop:=
 ∀(whole:Sem aj) (pins:List (Addr×Obj)) (s:au) (σ:St) (H:Hp) (Q:Bool->Hp->Prop),Inv X pins σ H s->t σ H Q->wpAny (model X.prog X.w) X.A (isTrue e X.env whole) (TP X pins σ Q) X.xe s
theorem PW.pt{X:Cx}{e:de}{t:TT}(h:PW X e t):PT X e t:=h _
def PA(X:Cx)(es:List de)(t:TA):Prop:=
 ∀(pos:sY) (pins:List (Addr×Obj)) (s:au) (σ:St) (H:Hp) (Q:List V->Hp->Prop),Inv X pins σ H s->t σ H Q->wpAny (model X.prog X.w) X.A (spliced (backTo pos (starEach es X.env))) (AP X pins σ Q) X.xe s
def PS(X:Cx)(st:Stmt)(t:TS):Prop:=
 ∀(pins:List (Addr×Obj)) (s:au) (σ:St) (H:Hp) (D:Ends),Inv X pins σ H s->t D σ H->wpAny (model X.prog X.w) X.A (exec st X.env) (SP X pins D) X.xe s
def U7(X:Cx)(st:List Stmt)(t:TS):Prop:=
 ∀(pins:List (Addr×Obj)) (s:au) (σ:St) (H:Hp) (D:Ends),Inv X pins σ H s->t D σ H->wpAny (model X.prog X.w) X.A (execs st X.env) (SP X pins D) X.xe s
theorem iW{α:Type}{t:Sem α}{Q Q':α->au->Prop}{M:Model}{A:cR}{E:aj->au->Prop}{s:au}(h:wpAny M A t Q E s)(hQ:∀a s,Q a s->Q' a s):wpAny M A t Q' E s:=jV h hQ fun _ _ x=>x
section
variable {X:Cx}
def ab0(i:Nat):TE:=fun σ H Q=>∃v,σ[i]? =some (some v)/\Q v H
def tC(v:V):TE:=fun _ H Q=>Q v H
theorem acA{i:Nat}{x:Str}{pos:sY}(hN:X.N[i]? =some x)(hv:Vis X.env.scope x)(hd:(x==("__debug__" :Str))=false:=by decide)(UA:(x==("__classdict__" :Str))=false:=by decide):PE X (.Name x pos) (ab0 i):=by
 intro pins s σ H Q I h;obtain⟨v,e,h⟩:=h;obtain⟨m,hn,hl⟩:=I.loc;obtain⟨u,r,l⟩:=hl i x v hN e hv;have fin:EP X pins σ Q u s:=⟨v,H,I,r,h⟩;rcases l with ⟨hk,hm⟩|⟨hk,c,hc,NH⟩
 ·exact Aw (wpAny_loadName_local I.ok.kind hk hn hm fin) hd
 ·rcases hk with hk|hk
  ·exact Aw (wpAny_loadName_cell I.ok.kind hk hc NH fin) hd
  ·exact Aw (wpAny_loadName_free I.ok.kind hk hc NH fin UA) hd
theorem aS{i j pos}:PE X (.Constant (.int i) j pos) (tC (.int i)):=fun _ _ _ H _ I h=>wpAny_Constant_int ⟨.int i,H,I.tok _,⟨_,rfl⟩,h⟩
theorem WM{b j pos}:PE X (.Constant (.bool b) j pos) (tC (.bl b)):=fun _ _ _ H _ I h=>Constant_bool ⟨.bl b,H,I,rfl,h⟩
def Gl(X:Cx)(x:Str):Prop:=X.env.kindOf x=some .globalImplicit
theorem Bm{E:aj->au->Prop}{pins:List (Addr×Obj)}{s:au}{σ:St}{H:Hp}{x:Str}{u:aj}{pos:sY}{Q:aj->au->Prop}(I:Inv X pins σ H s)(hg:Gl X x)(hm:X.mg x=some u)(h:Q u s)
  (hd:(x==("__debug__" :Str))=false:=by decide):wpAny (model X.prog X.w) X.A (eval (.Name x pos) X.env) Q E s:=
 Ip I.ok.kind hg (Calls.loadGlobal_global (by rw[I.ok.glob];exact I.mod.glob.keeps I.bk) hm h) hd
theorem Ah{E:aj->au->Prop}{pins:List (Addr×Obj)}{s:au}{σ:St}{H:Hp}{x:Str}{u:aj}{pos:sY}{Q:aj->au->Prop}(I:Inv X pins σ H s)(hg:Gl X x)(hm:X.mg x=none)(hv:bootBuiltins x=some u)(h:Q u s)
  (hn:x≠ "__name__" :=by decide)(hd:(x==("__debug__" :Str))=false:=by decide):wpAny (model X.prog X.w) X.A (eval (.Name x pos) X.env) Q E s:=by
 obtain⟨mb,h1,h2⟩:=I.mod.blt;exact Ip I.ok.kind hg (Calls.loadGlobal_builtin (by rw[I.ok.glob];exact I.mod.glob.keeps I.bk) hm (by rw[I.ok.blt];exact h1.keeps I.bk) ((h2 x hn).trans hv) h) hd
theorem RE{x:Str}{v:V}{u:aj}{pos:sY}(hg:Gl X x)(hm:X.mg x=some u)(r:RelV v u)(hd:(x==("__debug__" :Str))=false:=by decide):PE X (.Name x pos) (tC v):=
 fun _ _ _ H _ I h=>Bm I hg hm ⟨v,H,I,r,h⟩ hd
variable {a b:de} {ta tb:TE} {pos:sY}
def tB(t:TE):TT:=fun σ H Q=>t σ H fun x H1=>∃c,x=.bl c/\Q c H1
theorem kF{e:de}{t:TE}(h:PE X e t)(he:∀whole,isTrue e X.env whole=(do let v<-whole;standAt e.pos;holding [v] (truthy v)):=by intro _;rfl):PT X e (tB t):=by
 intro pins s σ H Q I hw;refine isTrue_plain (iW (h pins s σ H _ I hw) fun v s1 ⟨x,H1,I1,r1,q1⟩=>?_) (he _);obtain⟨d,rfl,q⟩:=q1;cases r1;exact lD ⟨H1,I1,q⟩
variable {tA tB':TT} {rest:List de}
def aeO(t u:TT):TT:=fun σ H Q=>t σ H fun c H1=>if c=true then u σ H1 Q else Q false H1
def tOr(t u:TT):TT:=fun σ H Q=>t σ H fun c H1=>if c=true then Q true H1 else u σ H1 Q
def aeI(t:TT):TT:=fun σ H Q=>t σ H fun c H1=>Q (!c) H1
theorem Ff(ha:PT X a tA):PW X (.BoolOp .And [a] pos) tA:=by
 intro wh pins s σ H Q I h;refine isTrue_and (iW (ha pins s σ H Q I h) fun c s1 e=>?_);cases c with
 |true=>exact isTrue_and_nil e
 |false=>exact e
theorem Cv(ha:PT X a tA):PW X (.BoolOp .Or [a] pos) tA:=by
 intro wh pins s σ H Q I h;refine isTrue_or (iW (ha pins s σ H Q I h) fun c s1 e=>?_);cases c with
 |false=>exact isTrue_or_nil e
 |true=>exact e
theorem Kv(ha:PT X a tA)(hb:PW X (.BoolOp .And (b::rest) pos) tB'):PW X (.BoolOp .And (a::b::rest) pos) (aeO tA tB'):=by
 intro wh pins s σ H Q I h;refine isTrue_and (iW (ha pins s σ H _ I h) fun c s1 ⟨H1,I1,q1⟩=>?_);cases c with
 |true=>exact hb wh pins s1 σ H1 Q I1 q1
 |false=>exact⟨H1,I1,q1⟩
theorem IU(ha:PT X a tA)(hb:PW X (.BoolOp .Or (b::rest) pos) tB'):PW X (.BoolOp .Or (a::b::rest) pos) (tOr tA tB'):=by
 intro wh pins s σ H Q I h;refine isTrue_or (iW (ha pins s σ H _ I h) fun c s1 ⟨H1,I1,q1⟩=>?_);cases c with
 |true=>exact⟨H1,I1,q1⟩
 |false=>exact hb wh pins s1 σ H1 Q I1 q1
theorem oB(ha:PT X a tA):PT X (.UnaryOp .Not a pos) (aeI tA):=by
 intro pins s σ H Q I h;exact isTrue_not (ha pins s σ H (fun c H1=>Q (!c) H1) I h)
def aa6(ta tb:TE):TE:=fun σ H Q=>ta σ H fun x H1=>∃c,x=.bl c/\if c=true then tb σ H1 Q else Q (.bl false) H1
def aeG(ta tb:TE):TE:=fun σ H Q=>ta σ H fun x H1=>∃c,x=.bl c/\if c=true then Q (.bl true) H1 else tb σ H1 Q
theorem CD{op}{t:TE}(h:PE X a t):PE X (.BoolOp op [a] pos) t:=fun pins s σ H Q I hw=>BoolOp_one (h pins s σ H Q I hw)
theorem wW(ha:PE X a ta)(hb:PE X (.BoolOp .And (b::rest) pos) tb):PE X (.BoolOp .And (a::b::rest) pos) (aa6 ta tb):=by
 intro pins s σ H Q I h;refine BoolOp_and (iW (ha pins s σ H _ I h) fun v s1 ⟨x,H1,I1,r1,q1⟩=>?_);obtain⟨c,rfl,q1⟩:=q1;cases r1;refine lD ?_;cases c with
 |true=>exact hb pins s1 σ H1 Q I1 q1
 |false=>exact⟨.bl false,H1,I1,rfl,q1⟩
theorem ae7(ha:PE X a ta)(hb:PE X (.BoolOp .Or (b::rest) pos) tb):PE X (.BoolOp .Or (a::b::rest) pos) (aeG ta tb):=by
 intro pins s σ H Q I h;refine BoolOp_or (iW (ha pins s σ H _ I h) fun v s1 ⟨x,H1,I1,r1,q1⟩=>?_);obtain⟨c,rfl,q1⟩:=q1;cases r1;refine lD ?_;cases c with
 |false=>exact hb pins s1 σ H1 Q I1 q1
 |true=>exact⟨.bl true,H1,I1,rfl,q1⟩
def tIf(t:TT)(ta tb:TE):TE:=fun σ H Q=>t σ H fun c H1=>if c=true then ta σ H1 Q else tb σ H1 Q
theorem Gz{c:de}(hc:PT X c tA)(ha:PE X a ta)(hb:PE X b tb):PE X (.IfExp c a b pos) (tIf tA ta tb):=by
 intro pins s σ H Q I h;refine wpAny_IfExp (iW (hc pins s σ H _ I h) fun d s1 ⟨H1,I1,q1⟩=>?_);cases d with
 |true=>exact ha pins s1 σ H1 Q I1 q1
 |false=>exact hb pins s1 σ H1 Q I1 q1
end
def bW(K:aq)(H:Hp)(a:Addr)(xs:List V):Prop:=Rd H a (.lst xs)\/E3 fun(o:Obj) (dh:Array aj) (n:Nat)=>A6 (K.lookup a=some o) (o.cls=.type "list") (o.dict=none) (o.data=.seq dh n) (dh.size<=sizeLine) (cZ xs dh.toList)
def wa(K:aq)(H:Hp)(a:Addr)(xs:List V):Prop:=Rd H a (.tup xs)\/E3 fun(o:Obj) (dh:Array aj) (n:Nat)=>A5 (K.lookup a=some o) (o.cls=.type "tuple") (o.data=.seq dh n) (dh.size<=sizeLine) (cZ xs dh.toList)
def ajG:aj->Option V
 |.none=>some .lC
 |.bool b=>some (.bl b)
 |.int i _=>some (.int i)
 |.str x _=>some (.str x)
 |.bytes b _=>some (.OP b)
 |.float b _=>some (.flt b)
 |.ref a=>some (.ref a)
 |.type n=>some (.ty n)
 |_=>none
theorem RelV.abs{x:V}{u:aj}(r:RelV x u):ajG u=some x:=by
 cases x with
 |lC=>cases r;rfl
 |bl _=>cases r;rfl
 |int _=>obtain⟨t,rfl⟩:=r;rfl
 |str _=>obtain⟨t,rfl⟩:=r;rfl
 |OP _=>obtain⟨t,rfl⟩:=r;rfl
 |flt _=>obtain⟨t,rfl⟩:=r;rfl
 |ref _=>cases r;rfl
 |ty _=>cases r;rfl
theorem RelV.inj{x y:V}{u:aj}(r:RelV x u)(q:RelV y u):x=y:=ax (r.abs.symm.trans q.abs)
theorem cZ.inj:∀ {xs ys:List V} {us:List aj},cZ xs us->cZ ys us->xs=ys
 |_,_,_,.nil,.nil=>rfl
 |_,_,_,.cons r t,.cons r' t'=>by rw[r.inj r',cZ.inj t t']
section
variable {X:Cx} {pins:List (Addr×Obj)} {σ:St} {H:Hp} {s:au} {a:Addr} {xs ys:List V}
theorem bW.of{K:aq}(h:H a=some (.lst xs)):bW K H a xs:=.inl (.inl h)
theorem wa.of{K:aq}(h:H a=some (.tup xs)):wa K H a xs:=.inl (.inl h)
theorem Inv.list(I:Inv X pins σ H s)(h:bW X.K H a xs):∃dh:List aj,cZ xs dh/\PlainL s.heap a dh.toArray/\xs.length<=sizeLine:=by
 rcases h with h|⟨o,dh,n,hk,hc,hd,hs,hz,r⟩
 ·obtain⟨z,dh,n,r,e⟩:=h.ok I.gR;exact⟨dh,r,⟨_,n,e,rfl,rfl,rfl⟩,z⟩
 ·refine⟨dh.toList,r,⟨o,n,I.Nr a o hk,hc,hd,by simpa using hs⟩,?_⟩;have e:=r.length;simp only[aI]at e;omega
theorem Inv.tuple(I:Inv X pins σ H s)(h:wa X.K H a xs):∃dh:List aj,cZ xs dh/\IsTup s.heap a dh.toArray/\xs.length<=sizeLine:=by
 rcases h with h|⟨o,dh,n,hk,hc,hs,hz,r⟩
 ·obtain⟨z,dh,r,p⟩:=h.ok I.gR;exact⟨dh,r,p,z⟩
 ·refine⟨dh.toList,r,⟨o,I.Nr a o hk,hc,n,by simpa using hs⟩,?_⟩;have e:=r.length;simp only[aI]at e;omega
theorem Inv.GZ(I:Inv X pins σ H s)(h:bW X.K H a xs)(h':bW X.K H a ys):xs=ys:=by
 obtain⟨dh,r,⟨o,n,e,_,_,d⟩,_⟩:=I.list h;obtain⟨its',r',⟨o',n',e',_,_,d'⟩,_⟩:=I.list h';rw[e]at e';cases e';rw[d]at d'
 injection d' with d1 _
 have:dh=its':=by simpa using congrArg OJ d1
 subst this;exact r.inj r'
theorem Inv.Tg(I:Inv X pins σ H s)(h:wa X.K H a xs)(h':wa X.K H a ys):xs=ys:=by
 obtain⟨dh,r,⟨o,e,_,n,d⟩,_⟩:=I.tuple h;obtain⟨its',r',⟨o',e',_,n',d'⟩,_⟩:=I.tuple h';rw[e]at e';cases e';rw[d]at d'
 injection d' with d1 _
 have:dh=its':=by simpa using congrArg OJ d1
 subst this;exact r.inj r'
end
abbrev Cx.HU(X:Cx)(E:aj->au->Prop):Cx:={X with xe:=E}
abbrev Cx.nox(X:Cx):Cx:=X.HU fun _ _=>False
theorem Cx.Ok.HU{X:Cx}(ok:X.Ok)(E:aj->au->Prop):(X.HU E).Ok:=
 ⟨ok.mod,ok.kind,ok.glob,ok.blt,ok.above,ok.inj,ok.has,ok.cab,ok.hd,ok.frames,ok.stk,ok.exf,ok.bs,ok.bsz,ok.W2,ok.XU,ok.EI,ok.frf⟩
theorem Cx.Ok.wu{X:Cx}{E:aj->au->Prop}(ok:(X.HU E).Ok):X.Ok:=
 ⟨ok.mod,ok.kind,ok.glob,ok.blt,ok.above,ok.inj,ok.has,ok.cab,ok.hd,ok.frames,ok.stk,ok.exf,ok.bs,ok.bsz,ok.W2,ok.XU,ok.EI,ok.frf⟩
section
variable {X:Cx} {pins:List (Addr×Obj)} {σ:St} {H:Hp} {s:au} {E:aj->au->Prop}
theorem Inv.HU(I:Inv X pins σ H s)(E:aj->au->Prop):Inv (X.HU E) pins σ H s:=⟨I.ok.HU E,I.os,I.bare,I.base,I.loc,I.cell,I.free,I.um,I.pin,I.gR,I.len⟩
theorem Inv.wu(I:Inv (X.HU E) pins σ H s):Inv X pins σ H s:=⟨I.ok.wu,I.os,I.bare,I.base,I.loc,I.cell,I.free,I.um,I.pin,I.gR,I.len⟩
theorem SP.wu{D:Ends}{f:Flow}{s':au}(h:SP (X.HU E) pins D f s'):SP X pins D f s':=by
 cases f with
 |next=>obtain⟨σ',H',I,q⟩:=h;exact⟨σ',H',I.wu,q⟩
 |brk=>obtain⟨σ',H',I,q⟩:=h;exact⟨σ',H',I.wu,q⟩
 |cont=>obtain⟨σ',H',I,q⟩:=h;exact⟨σ',H',I.wu,q⟩
 |ret u=>obtain⟨v,σ',H',I,r,q⟩:=h;exact⟨v,σ',H',I.wu,r,q⟩
theorem U7.nox{st:List Stmt}{t:TS}(h:U7 X.nox st t):U7 X st t:=fun pins s σ H D I hw=>
 jV (h pins s σ H D (I.HU _) hw) (fun _ _ q=>q.wu) fun _ _ z=>fU z
end
section
variable {X:Cx} {st:Stmt} {rest:List Stmt} {t u:TS} {e:de} {te:TE} {pos:sY}
def aa2:TS:=fun D σ H=>D.nx σ H
def aeE(t u:TS):TS:=fun D σ H=>t {D with nx:=u D} σ H
theorem eZ:U7 X [] aa2:=fun _ _ σ H _ I h=>AB ⟨σ,H,I,h⟩
theorem aC(h1:PS X st t)(h2:U7 X rest u):U7 X (st::rest) (aeE t u):=by
 intro pins s σ H D I h;refine wpAny_execs_cons (iW (h1 pins s σ H {D with nx:=u D} I h) fun f s1 q=>?_);cases f with
 |next=>
  obtain⟨σ',H',I',q⟩:=q;exact h2 pins s1 σ' H' D I' q
 |ret v=>exact q
 |brk=>exact q
 |cont=>exact q
theorem aJ(h1:PS X st t):U7 X [st] t:=by
 intro pins s σ H D I h;refine wpAny_execs_cons (iW (h1 pins s σ H D I h) fun f s1 q=>?_);cases f with
 |next=>exact AB q
 |ret v=>exact q
 |brk=>exact q
 |cont=>exact q
theorem Inv.quiet{pins:List (Addr×Obj)}{σ:St}{H:Hp}{s:au}(I:Inv X pins σ H s):interactive X.env=false:=by simp[interactive,I.ok.kind]
def aa4(te:TE):TS:=fun D σ H=>te σ H fun _ H1=>D.nx σ H1
theorem eu(he:PE X e te)(hs:swapsWith e none pos.line X.env=pure false:=by rfl):PS X (.Expr e pos) (aa4 te):=by
 intro pins s σ H D I h;exact wpAny_Expr_any (iW (he pins s σ H _ I h) fun v s1 ⟨x,H1,I1,r1,q1⟩=>⟨σ,H1,I1,q1⟩) I.quiet hs
def aeF(te:TE):TS:=fun D σ H=>te σ H D.rt
theorem bj(he:PE X e te):PS X (.Return (some e) pos) (aeF te):=by
 intro pins s σ H D I h;exact wpAny_Return_some (iW (he pins s σ H _ I h) fun v s1 ⟨x,H1,I1,r1,q1⟩=>⟨x,σ,H1,I1,r1,q1⟩)
def aa0:TS:=fun D _ H=>D.rt .lC H
theorem ZH:PS X (.Return none pos) aa0:=fun _ _ σ H _ I h=>wpAny_Return_none ⟨.lC,σ,H,I,rfl,h⟩
def aeL(c:TT)(t u:TS):TS:=fun D σ H=>c σ H fun b H1=>if b=true then t D σ H1 else u D σ H1
theorem i6{c:de}{a b:List Stmt}{tc:TT}(hc:PT X c tc)(ha:U7 X a t)(hb:U7 X b u):PS X (.If c a b pos) (aeL tc t u):=by
 intro pins s σ H D I h;refine wpAny_If (iW (hc pins s σ H _ I h) fun d s1 ⟨H1,I1,q1⟩=>?_);cases d with
 |true=>exact ha pins s1 σ H1 D I1 q1
 |false=>exact hb pins s1 σ H1 D I1 q1
end
abbrev TG:=V->St->Hp->(St->Hp->Prop)->Prop
abbrev Y0:=List V->St->Hp->(St->Hp->Prop)->Prop
def PG(X:Cx)(target:de)(t:TG):Prop:=∀(pins:List (Addr×Obj)) (s:au) (σ:St) (H:Hp) (v:V) (u:aj) (Q:St->Hp->Prop),Inv X pins σ H s->RelV v u->t v σ H Q->wpAny (model X.prog X.w) X.A (assign target X.env u) (fun _ s'=>∃σ' H',Inv X pins σ' H' s'/\Q σ' H') X.xe s
def PGs(X:Cx)(ts:List de)(t:Y0):Prop:=∀(pins:List (Addr×Obj)) (s:au) (σ:St) (H:Hp) (vs:List V) (us:List aj) (Q:St->Hp->Prop),Inv X pins σ H s->cZ vs us->t vs σ H Q->wpAny (model X.prog X.w) X.A (assignInOrder ((assignEach ts X.env).map (·.2)) us) (fun _ s'=>∃σ' H',Inv X pins σ' H' s'/\Q σ' H') X.xe s
abbrev aaQ:=V->V->V->Hp->(Hp->Prop)->Prop
def agy(X:Cx)(t:aaQ):Prop:=∀(pins:List (Addr×Obj)) (s:au) (σ:St) (H:Hp) (o i v:V) (ov iv u:aj) (Q:Hp->Prop),Inv X pins σ H s->RelV o ov->RelV i iv->RelV v u->t o i v H Q->wpAny (model X.prog X.w) X.A (setItem ov iv u) (fun _ s'=>∃H',Inv X pins σ H' s'/\Q H') X.xe s
section
variable {X:Cx} {pos:sY}
def Jw(i:Nat):TG:=fun v σ H Q=>Q (σ.set i (some v)) H
theorem cv{i:Nat}{x:Str}(hN:X.N.Nodup)(hi:X.N[i]? =some x)(hx:Loc X.env.scope x)(hf:X.fn x=true\/X.env.scope.names.lookup x=some .local:=by first|exact .inl rfl|exact .inr rfl|assumption):PG X (.Name x pos) (Jw i):=by
 intro pins s σ H v u Q I r h;exact wpAny_assign_Name (Ml I hN hi hx r (fun s' I'=>⟨_,H,I',h⟩) hf)
def agh:Y0:=fun vs σ H Q=>vs=[]/\Q σ H
def abJ(t:TG)(u:Y0):Y0:=fun vs σ H Q=>E2 fun v r=>vs=v::r/\t v σ H fun σ' H'=>u r σ' H' Q
theorem oT:PGs X [] agh:=by
 intro pins s σ H vs us Q I r h;obtain⟨e,h⟩:=h;subst e;cases r;exact assignInOrder_nil ⟨σ,H,I,h⟩
theorem fR{e:de}{es:List de}{t:TG}{u:Y0}(h1:PG X e t)(h2:PGs X es u)
  (hs:(assignEach (e::es) X.env).map (·.2)=assign e X.env::(assignEach es X.env).map (·.2):=by rfl):PGs X (e::es) (abJ t u):=by
 intro pins s σ H vs us Q I r h;obtain⟨v,vr,e1,h⟩:=h;subst e1;cases r with
 |cons r rr=>
  rw[hs];refine assignInOrder_cons (iW (h1 pins s σ H _ _ _ I r h) fun _ s1 ⟨σ1,H1,I1,q1⟩=>?_);exact h2 pins s1 σ1 H1 _ _ Q I1 rr q1
def adI(K:aq)(n:Nat)(t:Y0):TG:=fun v σ H Q=>E2 fun a xs=>A4 (v=.ref a) (wa K H a xs) (xs.length=n) (t xs σ H Q)
theorem tI{es:List de}{k:Nat}{t:Y0}{n:Nat}(hc:X.calm=true)(h:PGs X es t)
  (hn:(assignEach es X.env).length=n:=by rfl)(Nw:(assignEach es X.env).findIdx? (·.1)=none:=by rfl):PG X (.Tuple es k pos) (adI X.K n t):=by
 intro pins s σ H v u Q I r hw;obtain⟨a,xs,e1,hq,hl,hw⟩:=hw;subst e1;cases r;obtain⟨dh,rv,ht,hz⟩:=I.tuple hq;refine assign_Tuple_tuple (I.ok.hd hc) ht (by simp[hn,<-hl,rv.length]) Nw fun h' hx=>?_
 have I1:Inv X pins σ H {s with heap:=h'}:=I.kept (t':=s.toks) fun b o e=>hx b o (bE (Heap.lt_size e)) e
 exact h pins _ σ H xs _ Q I1 (by simpa using rv) hw
def agg(to ti:TE)(t:aaQ):TG:=fun v σ H Q=>to σ H fun o H1=>ti σ H1 fun i H2=>t o i v H2 fun H3=>Q σ H3
theorem PJ{o i:de}{to ti:TE}{t:aaQ}(ho:PE X o to)(hi:PE X i ti)(hs:agy X t)
  (ha:∀v,assign (.Subscript o i pos) X.env v=(do
   let ov<-holding [v] (eval o X.env)
   let iv<-holding [v,ov] (eval i X.env)
   standAt pos
   holding [v,ov,iv] (setItem ov iv v)
   release [v,ov,iv] []):=by intro _;rfl):PG X (.Subscript o i pos) (agg to ti t):=by
 intro pins s σ H v u Q I r h;rw[ha];refine ag (fq (iW (ho pins s σ H _ I h) fun ov s1 ⟨x,H1,I1,r1,q1⟩=>?_));refine ag (fq (iW (hi pins s1 σ H1 _ I1 q1) fun iv s2 ⟨y,H2,I2,r2,q2⟩=>?_));refine ag (Fx (ag (fq (iW (hs pins s2 σ H2 x y v ov iv u _ I2 r1 r2 r q2) fun _ s3 ⟨H3,I3,q3⟩=>?_))));exact wpAny_release ⟨σ,H3,I3,q3⟩
def VY(te:TE)(g:TG):TS:=fun D σ H=>te σ H fun x H1=>g x σ H1 D.nx
theorem PF{tg e:de}{te:TE}{g:TG}(he:PE X e te)(hg:PG X tg g)(hs:swapsWithSole [tg] e pos.line X.env=pure false:=by rfl)(hw:swappedStores [tg] e X.env=pure none:=by rfl)
  (h1:(assignEach [tg] X.env).map (·.2)=[assign tg X.env]:=by rfl):PS X (.Assign [tg] e pos) (VY te g):=by
 intro pins s σ H D I h;refine wpAny_Assign_stores (iW (he pins s σ H _ I h) fun v s1 ⟨x,H1,I1,r1,q1⟩=>?_) hs hw;rw[h1];exact iW (hg pins s1 σ H1 x v _ I1 r1 q1) fun _ s2 q=>q
theorem cf{i:Nat}{x:Str}{e:de}{te:TE}{pos':sY}(hN:X.N.Nodup)(hi:X.N[i]? =some x)(hx:Loc X.env.scope x)(he:PE X e te)(hs:swapsWith e (some (.Name x pos')) pos.line X.env=pure false:=by rfl)(hf:X.fn x=true\/X.env.scope.names.lookup x=some .local:=by first|exact .inl rfl|exact .inr rfl|assumption):
  PS X (.Assign [.Name x pos'] e pos) (VY te (Jw i)):=by
 intro pins s σ H D I h;refine wpAny_Assign_Name (iW (he pins s σ H _ I h) fun v s1 ⟨y,H1,I1,r1,q1⟩=>?_) hs;exact Ml I1 hN hi hx r1 (fun s2 I2=>⟨_,H1,I2,q1⟩) hf
end
section
variable {X:Cx} {pos:sY}
def VQ(c:TT)(tb:TS):TS:=fun D σ H=>∃W:Nat->St->Hp->Prop,(∃m,W m σ H)/\∀m σ H,W m σ H->c σ H fun b H1=>if b=true then ∃N:St->Hp->Prop,(∀σ' H',N σ' H'->∃m',m'<m/\W m' σ' H')/\tb {D with nx:=N,ct:=N,bk:=D.nx} σ H1 else D.nx σ H1
theorem WD{c:de}{body:List Stmt}{tc:TT}{tb:TS}(hp:PassesOwn (model X.prog X.w) X.A X.env X.xe)(hc:PT X c tc)(hb:U7 X body tb):PS X (.While c body [] pos) (VQ tc tb):=by
 intro pins s σ H D I h;obtain⟨W,⟨m0,w0⟩,turn⟩:=h;refine wpAny_While (codeAny_whileLoop (fun n s'=>∃σ' H',Inv X pins σ' H' s'/\W n σ' H') ?_ m0 ⟨σ,H,I,w0⟩);rintro n s1 ⟨σ1,H1,I1,w1⟩;refine lh hp (iW (hc pins s1 σ1 H1 _ I1 (turn n σ1 H1 w1)) fun b s2 ⟨H2,I2,q2⟩=>?_);cases b with
 |true=>
  obtain⟨N,hN,q2⟩:=q2;rw[if_pos rfl];refine lh hp (iW (hb pins s2 σ1 H2 _ I2 q2) fun f s3 q3=>?_);cases f with
  |next=>
   obtain⟨σ3,H3,I3,n3⟩:=q3;obtain⟨m',hm,w3⟩:=hN σ3 H3 n3;exact⟨m',hm,σ3,H3,I3,w3⟩
  |cont=>
   obtain⟨σ3,H3,I3,n3⟩:=q3;obtain⟨m',hm,w3⟩:=hN σ3 H3 n3;exact⟨m',hm,σ3,H3,I3,w3⟩
  |brk=>exact q3
  |ret v=>exact q3
 |false=>
  rw[if_neg br];exact AB ⟨σ1,H2,I2,q2⟩
end
structure It where
 go:Nat->Hp->Prop
 LP:Nat->Hp->V->Hp->Prop
 stop:Nat->Hp->Prop
def HB(X:Cx)(pins:List (Addr×Obj))(H:Hp)(b:Addr):Prop:=
 H b=none/\b≠X.env.locals/\b∉X.fs/\(b∈X.ex\/X.II.heap.objs.size<=b)/\(∀x c,X.env.cells.lookup x=some c->c≠b)/\∀p∈X.pn++pins,p.1≠b
theorem Inv.Qq{X:Cx}{pins:List (Addr×Obj)}{σ:St}{H H':Hp}{s:au}{b:Addr}(I:Inv X pins σ H s)(hb:s.heap.objs.size<=b)(hn:H' b=none):HB X pins H' b:=by
 refine⟨hn,lO (bV I.lt hb),I.ahU hb,.inr (bN I.sz hb),fun x c e z=>?_,fun p hp z=>?_⟩
 ·obtain⟨v,q⟩:=I.cell x c e;exact absurd (bV q.lt (by rw[z];exact hb)) (et _)
 ·exact absurd (bV (Heap.lt_size (I.pin p hp).1) (by rw[z];exact hb)) (et _)
structure Turn(P:bw)(w:bQ)(K:aq)(tg:de)(J:It)(fp:List Addr)(it:Addr)(tn:Nat->Heap->Prop):Prop where
 mem:it∈fp
 obj:∀i h,tn i h->∀b∈fp,∃o,h.get? b=some o/\∀v,o.data≠ .cell v
 keep:∀i h h',tn i h->(∀b∈fp,∀o,h.get? b=some o->h'.get? b=some o)->tn i h'
 item:∀(X:Cx),X.prog=P->X.w=w->X.K=K->X.calm=true->∀(i:Nat) (pins:List (Addr×Obj)) (s:au) (σ:St) (H:Hp) (E:aj->au->Prop),Inv X pins σ H s->(∀b∈fp,HB X pins H b)->tn i s.heap->J.go i H->
  wpAny (model P w) X.A (pyNext (.ref it)) (fun r s1=>∃u,r=some u/\
   wpAny (model P w) X.A (letOwnedTupleGo tg (.ref it) u) (fun _ s2=>∃x H',Inv X pins σ H' s2/\RelV x u/\J.LP i H x H'/\tn (i+1) s2.heap/\∀b∈fp,H' b=none) E s1) E s
 done:∀(X:Cx),X.prog=P->X.w=w->X.K=K->X.calm=true->∀(i:Nat) (pins:List (Addr×Obj)) (s:au) (σ:St) (H:Hp) (E:aj->au->Prop),Inv X pins σ H s->(∀b∈fp,HB X pins H b)->tn i s.heap->J.stop i H->
  wpAny (model P w) X.A (pyNext (.ref it)) (fun r s1=>r=none/\Inv X pins σ H s1) E s
 self:∀(A:cR) (i:Nat) (s:au) (Q:aj->au->Prop) (E:aj->au->Prop),tn i s.heap->Q (.ref it) s->wpAny (model P w) A (pyIter (.ref it)) Q E s
abbrev TI:=St->Hp->(It->Hp->Prop)->Prop
def PIE(X:Cx)(pins:List (Addr×Obj))(σ:St)(tg:de)(R:It->Hp->Prop)(itv:aj)(s2:au):Prop:=E5 fun(it:Addr) (fp:List Addr) (tn:Nat->Heap->Prop) (J:It) (H':Hp)=>A6 (itv=.ref it) (Inv X pins σ H' s2) (Turn X.prog X.w X.K tg J fp it tn) (tn 0 s2.heap) (∀b∈fp,HB X pins H' b) (R J H')
def PI(X:Cx)(tg iter:de)(wi:TI):Prop:=
 ∀(pins:List (Addr×Obj)) (s:au) (σ:St) (H:Hp) (R:It->Hp->Prop),Inv X pins σ H s->wi σ H R->
  wpAny (model X.prog X.w) X.A (eval iter X.env) (fun v s1=>wpAny (model X.prog X.w) X.A (pyIter v) (PIE X pins σ tg R) X.xe s1) X.xe s
theorem Ju{M:Model}{A:cR}{E:aj->au->Prop}{s:au}{tg:de}{it:Addr}{u:aj}{o:Obj}{n:String}{vs:Array aj}{Q:Unit->au->Prop}(ho:s.heap.get? it=some o)(hc:o.cls=.type n)(hd:o.data=.fields vs)
  (hn:["enumerate","zip","dict_itemiterator","dict_reverseitemiterator","odict_iterator","itertools.zip_longest","itertools.pairwise"].contains n=false)(hQ:Q () s):wpAny M A (letOwnedTupleGo tg (.ref it) u) Q E s:=by
 unfold letOwnedTupleGo;cases tg<;>first
  |exact aD hQ
  |(cases u<;>first
    |exact aD hQ
    |(refine ag (wpAny_load ho ?_)
      rw[hc,hd];show wpAny M A (if (["enumerate","zip","dict_itemiterator","dict_reverseitemiterator","odict_iterator","itertools.zip_longest","itertools.pairwise"].contains n&&vs[0]? ==some (rawInt _))=true then _ else _) Q E s;rw[if_neg (by intro h;rw[hn,ly]at h;cases h)];exact aD hQ))
def Itl(K:aq)(a:Addr):It:=⟨fun i H=>∃xs x,bW K H a xs/\xs[i]? =some x,fun i H x H'=>H'=H/\∀xs,bW K H a xs->xs[i]? =some x,fun i H=>∃xs,bW K H a xs/\xs.length<=i⟩
def Itt(K:aq)(a:Addr):It:=⟨fun i H=>∃xs x,wa K H a xs/\xs[i]? =some x,fun i H x H'=>H'=H/\∀xs,wa K H a xs->xs[i]? =some x,fun i H=>∃xs,wa K H a xs/\xs.length<=i⟩
def Y2(lo:Int)(n:Nat):It:=⟨fun i _=>i<n,fun i H x H'=>H'=H/\x=.int (lo+i),fun i _=>n<=i⟩
theorem Te{P:bw}{w:bQ}{K:aq}{tg:de}(a it:Addr):Turn P w K tg (Itl K a) [it] it (fun i h=>h.IsListIter it a i) where
 mem:=by simp
 obj:=fun i h st b hb=>by
  have e:b=it:=by simpa using hb
  subst e;obtain⟨o,e,c,d⟩:=st;exact⟨o,e,fun v z=>by rw[d]at z;cases z⟩
 keep:=fun i h h' st k=>st.at fun o e=>k it (by simp) o e
 item:=by
  intro X hP hw hK hc i pins s σ H E I hf st hg;subst hP hw hK;obtain⟨xs,x,hq,hx⟩:=hg;obtain⟨dh,rv,p,hz⟩:=I.list hq;obtain⟨u,hu,ru⟩:=rv.get hx;obtain⟨f0,f1,f2,f3,f4,f5⟩:=hf it (by simp);refine wpAny_pyNext_list_item st p.isList (x:=u) (by simpa using hu) fun h' Mo sb=>?_
  have I1:Inv X pins σ H {s with heap:=h'}:=I.turned (t':=s.toks) (fun b o hb e=>(sb.2 b hb).trans e) f0 f1 f3 f4 f5;obtain⟨o,e,c,d⟩:=id Mo;exact⟨u,rfl,Ju (s:={s with heap:=h'}) e c d (by decide) ⟨x,H,I1,ru,⟨rfl,fun ys hy=>by rw[I.GZ hy hq];exact hx⟩,Mo,fun b hb=>(hf b hb).1⟩⟩
 done:=by
  intro X hP hw hK hc i pins s σ H E I hf st hg;subst hP hw hK;obtain⟨xs,hq,hx⟩:=hg;obtain⟨dh,rv,p,hz⟩:=I.list hq;obtain⟨f0,f1,f2,f3,f4,f5⟩:=hf it (by simp);have hl:=rv.length;exact wpAny_pyNext_list_end (I.ok.hd hc) st p.isList (by simp;omega) fun h' eb=>⟨rfl,I.turned (t':=s.toks) (fun b o hb e=>eb b o hb e) f0 f1 f3 f4 f5⟩
 self:=fun _ _ _ _ _ st h=>wpAny_pyIter_listiter st h
theorem O6{P:bw}{w:bQ}{K:aq}{tg:de}(a it:Addr):Turn P w K tg (Itt K a) [it] it (fun i h=>h.IsTupleIter it a i) where
 mem:=by simp
 obj:=fun i h st b hb=>by
  have e:b=it:=by simpa using hb
  subst e;obtain⟨o,e,c,d⟩:=st;exact⟨o,e,fun v z=>by rw[d]at z;cases z⟩
 keep:=fun i h h' st k=>st.at fun o e=>k it (by simp) o e
 item:=by
  intro X hP hw hK hc i pins s σ H E I hf st hg;subst hP hw hK;obtain⟨xs,x,hq,hx⟩:=hg;obtain⟨dh,rv,p,hz⟩:=I.tuple hq;obtain⟨u,hu,ru⟩:=rv.get hx;obtain⟨f0,f1,f2,f3,f4,f5⟩:=hf it (by simp);refine wpAny_pyNext_tuple_item st (show s.heap.IsTuple a dh.toArray from p) (x:=u) (by simpa using hu) fun h' Mo sb=>?_
  have I1:Inv X pins σ H {s with heap:=h'}:=I.turned (t':=s.toks) (fun b o hb e=>(sb.2 b hb).trans e) f0 f1 f3 f4 f5;obtain⟨o,e,c,d⟩:=id Mo;exact⟨u,rfl,Ju (s:={s with heap:=h'}) e c d (by decide) ⟨x,H,I1,ru,⟨rfl,fun ys hy=>by rw[I.Tg hy hq];exact hx⟩,Mo,fun b hb=>(hf b hb).1⟩⟩
 done:=by
  intro X hP hw hK hc i pins s σ H E I hf st hg;subst hP hw hK;obtain⟨xs,hq,hx⟩:=hg;obtain⟨dh,rv,p,hz⟩:=I.tuple hq;obtain⟨f0,f1,f2,f3,f4,f5⟩:=hf it (by simp);have hl:=rv.length;exact wpAny_pyNext_tuple_end (I.ok.hd hc) st (show s.heap.IsTuple a dh.toArray from p) (by simp;omega) fun h' eb=>⟨rfl,I.turned (t':=s.toks) (fun b o hb e=>eb b o hb e) f0 f1 f3 f4 f5⟩
 self:=fun _ _ _ _ _ st h=>wpAny_pyIter_tupleiter st h
theorem O7{P:bw}{w:bQ}{K:aq}{tg:de}(it:Addr)(lo:Int)(n:Nat):Turn P w K tg (Y2 lo n) [it] it (fun i h=>L7 h it (lo+(i:Nat)*1) ((n:Int)-(i:Nat)) 1) where
 mem:=by simp
 obj:=fun i h st b hb=>by
  have e:b=it:=by simpa using hb
  subst e;exact⟨_,st,fun v z=>by
   have z':Data.fields _=Data.cell v:=z;cases z'⟩
 keep:=fun i h h' st k=>k it (by simp) _ st
 item:=by
  intro X hP hw hK hc i pins s σ H E I hf st hg;subst hP hw hK;obtain⟨f0,f1,f2,f3,f4,f5⟩:=hf it (by simp);have W:=Walks.range (prog:=X.prog) (w:=X.w) (I.ok.hd hc) it lo 1 n;refine W.item i s _ _ hg st fun v h' tk hv Mo kk=>?_
  obtain⟨t,rfl⟩:=hv;have I1:Inv X pins σ H {s with heap:=h',toks:=tk}:=I.turned (fun b o hb e=>kk b o (by simpa using hb) e) f0 f1 f3 f4 f5;refine⟨_,rfl,Ju (s:={s with heap:=h',toks:=tk}) (n:="range_iterator") Mo rfl rfl (by decide) ⟨.int (lo+i),H,I1,⟨t,?_⟩,⟨rfl,rfl⟩,Mo,fun b hb=>(hf b hb).1⟩⟩;rw[Int.mul_one]
 done:=by
  intro X hP hw hK hc i pins s σ H E I hf st hg;subst hP hw hK;obtain⟨f0,f1,f2,f3,f4,f5⟩:=hf it (by simp);exact Yz (I.ok.hd hc) st (by have:n<=i:=hg;omega) fun h' eb=>⟨rfl,I.turned (t':=s.toks) (fun b o hb e=>eb b o hb e) f0 f1 f3 f4 f5⟩
 self:=fun _ _ _ _ _ st h=>YA st h
section
variable {X:Cx} {tg:de}
def abp(K:aq)(tl:TE):TI:=fun σ H R=>tl σ H fun x H1=>∃a,A3 (x=.ref a) (∃xs,bW K H1 a xs) (R (Itl K a) H1)
def ah6(K:aq)(tl:TE):TI:=fun σ H R=>tl σ H fun x H1=>∃a,A3 (x=.ref a) (∃xs,wa K H1 a xs) (R (Itt K a) H1)
theorem hJ{l:de}{tl:TE}(hl:PE X l tl):PI X tg l (abp X.K tl):=by
 intro pins s σ H R I h;refine iW (hl pins s σ H _ I h) fun v s1 ⟨x,H1,I1,r1,q1⟩=>?_
 obtain⟨a,e,⟨xs,hq⟩,q⟩:=q1;subst e;cases r1;obtain⟨dh,rv,p,hz⟩:=I1.list hq;refine lG p.isList ?_;refine⟨s1.heap.objs.size,[s1.heap.objs.size],_,_,H1,rfl,I1.kept (t':=s1.toks) fun b o e=>Heap.get?_push_of_some _ e,Te a _,⟨_,Heap.get?_push_size _ rfl,rfl,rfl⟩,fun b hb=>?_,q⟩;have e:b=s1.heap.objs.size:=by simpa using hb
 subst e;exact I1.Qq (ao _) (I1.gR.fresh (ao _))
theorem acy{l:de}{tl:TE}(hl:PE X l tl):PI X tg l (ah6 X.K tl):=by
 intro pins s σ H R I h;refine iW (hl pins s σ H _ I h) fun v s1 ⟨x,H1,I1,r1,q1⟩=>?_
 obtain⟨a,e,⟨xs,hq⟩,q⟩:=q1;subst e;cases r1;obtain⟨dh,rv,p,hz⟩:=I1.tuple hq;refine wpAny_pyIter_tuple (show s1.heap.IsTuple a dh.toArray from p) ?_;refine⟨s1.heap.objs.size,[s1.heap.objs.size],_,_,H1,rfl,I1.kept (t':=s1.toks) fun b o e=>Heap.get?_push_of_some _ e,O6 a _,⟨_,Heap.get?_push_size _ rfl,rfl,rfl⟩,fun b hb=>?_,q⟩;have e:b=s1.heap.objs.size:=by simpa using hb
 subst e;exact I1.Qq (ao _) (I1.gR.fresh (ao _))
theorem Wy{pins:List (Addr×Obj)}{σ:St}{H:Hp}{s:au}{R:It->Hp->Prop}{E:aj->au->Prop}{lo hi:Int}{t u v:Vv}{tk:Nat}(I:Inv X pins σ H s)(h1: -(2^62)<=lo)(h2:lo<2^62)(h3: -(2^62)<=hi)(h4:hi<2^62)
  (q:R (Y2 lo (hi-lo).toNat) H):wpAny (model X.prog X.w) X.A (pyIter (.ref s.heap.objs.size)) (PIE X pins σ tg R) E {s with heap:=s.heap.push {cls:=.type "range",data:=.fields #[.int lo t,.int hi u,.int 1 v]},toks:=tk}:=by
 refine wpAny_pyIter_range (IsRange.new ..) (small_one h1 h2 h3 h4) ?_;have I1:Inv X pins σ H {s with heap:=s.heap.push {cls:=.type "range",data:=.fields #[.int lo t,.int hi u,.int 1 v]},toks:=tk}:=I.kept fun b o e=>Heap.get?_push_of_some _ e
 refine⟨(s.heap.push {cls:=.type "range",data:=.fields #[.int lo t,.int hi u,.int 1 v]}).objs.size,[(s.heap.push {cls:=.type "range",data:=.fields #[.int lo t,.int hi u,.int 1 v]}).objs.size],_,_,H,rfl,
  I1.kept (t':=tk) fun b o e=>Heap.get?_push_of_some _ e,O7 _ lo (hi-lo).toNat,?_,fun b hb=>?_,q⟩
 ·have e1:lo+((0:Nat):Int)*1=lo:=by simp
  have e2:(((hi-lo).toNat:Nat):Int)-((0:Nat):Int)=fB lo hi 1:=by rw[rangeSize_one];split<;>omega
  show L7 _ _ (lo+((0:Nat):Int)*1) ((((hi-lo).toNat:Nat):Int)-((0:Nat):Int)) 1;rw[e1,e2];exact Heap.get?_push_size _ rfl
 ·have e:b=(s.heap.push {cls:=.type "range",data:=.fields #[.int lo t,.int hi u,.int 1 v]}).objs.size:=by simpa using hb
  subst e;exact I1.Qq (ao _) (I1.gR.fresh (ao _))
def abo(ta:TA):TI:=fun σ H R=>ta σ H fun vs H1=>∃j:Int,A4 (vs=[.int j]) (-(2^62)<=j) (j<2^62) (R (Y2 0 j.toNat) H1)
theorem CC{a:de}{ta:TA}{p pos:sY}(hg:Gl X "range")(hm:X.mg "range" =none)(ha:PA X [a] ta)(hs:starEach [a] X.env=[(false,eval a X.env)]:=by rfl):PI X tg (.Call (.Name "range" p) [a] [] pos) (abo ta):=by
 intro pins s σ H R I h;refine Call_ (Ah I hg hm boot_range (hW (iW (ha pos pins s σ H _ I h) fun us s1 ⟨vs,H1,I1,r1,q1⟩=>?_) hs rfl));obtain⟨j,e,q1,q2,q⟩:=q1;subst e;cases r1 with
 |cons r rr=>
  cases rr;obtain⟨t,rfl⟩:=r;exact call_range_1 (Wy I1 (by omega) (by omega) q1 q2 (by simpa using q))
def aeM(wi:TI)(g:TG)(tb:TS):TS:=fun D σ H=>wi σ H fun J H1=>∃W:Nat->Nat->St->Hp->Prop,(∃m,W 0 m σ H1)/\∀i m σ H,W i m σ H->(J.stop i H/\D.nx σ H)\/(J.go i H/\∃N:St->Hp->Prop,(∀σ' H',N σ' H'->∃m',m'<m/\W (i+1) m' σ' H')/\∀x H',J.LP i H x H'->g x σ H' fun σ2 H2=>tb {D with nx:=N,ct:=N,bk:=D.nx} σ2 H2)
def Gu(fp:List Addr)(h:Heap):List (Addr×Obj):=fp.filterMap fun b=>(h.get? b).map fun o=>(b,o)
theorem Af{fp:List Addr}{h:Heap}{b:Addr}{o:Obj}(hb:b∈fp)(e:h.get? b=some o):(b,o)∈Gu fp h:=tm.mpr ⟨b,hb,by rw[e];rfl⟩
theorem T8{fp:List Addr}{h:Heap}{p:Addr×Obj}(hp:p∈Gu fp h):p.1∈fp/\h.get? p.1=some p.2:=by
 obtain⟨b,hb,e⟩:=tm.mp hp;cases q:h.get? b with
 |none=>rw[q]at e;cases e
 |some o=>
  rw[q]at e;have e':(b,o)=p:=ax e;subst e';exact⟨hb,q⟩
theorem Inv.pinned{pins:List (Addr×Obj)}{σ:St}{H:Hp}{s:au}{fp:List Addr}(I:Inv X pins σ H s)(hf:∀b∈fp,HB X pins H b)(ho:∀b∈fp,∃o,s.heap.get? b=some o/\∀v,o.data≠ .cell v):Inv X (pins++Gu fp s.heap) σ H s:=
 I.RC fun p hp=>(aH.mp hp).elim (fun z=>I.pin p (fJ _ z)) fun z=>by
  obtain⟨hb,e⟩:=T8 z;obtain⟨f0,f1,f2,_⟩:=hf p.1 hb;obtain⟨o,e',d⟩:=ho p.1 hb;rw[e]at e';cases e';exact⟨e,f0,f1,f2,d⟩
theorem Inv.AK{pins pl:List (Addr×Obj)}{σ:St}{H:Hp}{s:au}(I:Inv X (pins++pl) σ H s):Inv X pins σ H s:=I.RC fun p hp=>I.pin p (fJ _ (SY _ hp))
theorem jP{iter:de}{body:List Stmt}{wi:TI}{g:TG}{tb:TS}{pos:sY}(hp:PassesOwn (model X.prog X.w) X.A X.env X.xe)(hc:X.calm=true)(hi:PI X tg iter wi)(hg:PG X tg g)(hb:U7 X body tb)
  (hs:∀x,foldedSetIterable iter X.env x=pure x:=by intro _;rfl):PS X (.For tg iter body [] pos) (aeM wi g tb):=by
 intro pins s σ H D I h;refine wpAny_For (iW (hi pins s σ H _ I h) fun v s1 h1=>iW h1 fun itv s2 h2=>?_) hs;obtain⟨it,fp,tn,J,H2,e,I2,T,st2,f2,W,⟨m0,w0⟩,turn⟩:=h2;subst e;have Pb:∀ {H':Hp},(∀b∈fp,H' b=none)->∀b∈fp,HB X pins H' b:=fun hn b hb=>⟨hn b hb,(f2 b hb).2⟩
 refine codeAny_forLoop_any (fun n s'=>∃i σ' H',Inv X pins σ' H' s'/\tn i s'.heap/\(∀b∈fp,H' b=none)/\W i n σ' H') ?_ m0 ⟨0,σ,H2,I2,st2,fun b hb=>(f2 b hb).1,w0⟩;rintro n s3 ⟨i,σ3,H3,I3,st3,fr3,w3⟩;rcases turn i n σ3 H3 w3 with ⟨stop,qn⟩|⟨go,N,hN,step⟩
 ·refine lh hp (iW (T.done X rfl rfl rfl hc i pins s3 σ3 H3 X.xe I3 (Pb fr3) st3 stop) fun r s4 ⟨hr,I4⟩=>?_);subst hr;exact AB ⟨σ3,H3,I4,qn⟩
 ·refine lh hp (iW (T.item X rfl rfl rfl hc i pins s3 σ3 H3 X.xe I3 (Pb fr3) st3 go) fun r s4 ⟨u,hr,h4⟩=>?_);subst hr;refine lh hp (iW h4 fun _ s5 ⟨x,H5,I5,r5,y5,st5,fr5⟩=>?_);have I5':=I5.pinned (Pb fr5) (T.obj _ _ st5);refine lh hp (iW (hg _ s5 σ3 H5 x u _ I5' r5 (step x H5 y5)) fun _ s6 ⟨σ6,H6,I6,q6⟩=>?_);refine lh hp (iW (hb _ s6 σ6 H6 _ I6 q6) fun f s7 q7=>?_);have again:∀ {σ7:St} {H7:Hp},Inv X (pins++Gu fp s5.heap) σ7 H7 s7->N σ7 H7->∃m,m<n/\∃i σ' H',Inv X pins σ' H' s7/\tn i s7.heap/\(∀b∈fp,H' b=none)/\W i m σ' H':=fun{σ7 H7} I7 n7=>by
   obtain⟨m',hm,w7⟩:=hN σ7 H7 n7;refine⟨m',hm,i+1,σ7,H7,I7.AK,T.keep _ _ _ st5 fun b hb o e=>(I7.pin (b,o) (fJ _ (fJ _ (Af hb e)))).1,fun b hb=>?_,w7⟩;obtain⟨o,e,d⟩:=T.obj _ _ st5 b hb;exact(I7.pin (b,o) (fJ _ (fJ _ (Af hb e)))).2.1
  cases f with
  |next=>obtain⟨σ7,H7,I7,n7⟩:=q7;exact again I7 n7
  |cont=>obtain⟨σ7,H7,I7,n7⟩:=q7;exact again I7 n7
  |brk=>obtain⟨σ7,H7,I7,q7⟩:=q7;exact⟨σ7,H7,I7.AK,q7⟩
  |ret v=>obtain⟨x7,σ7,H7,I7,r7,q7⟩:=q7;exact⟨x7,σ7,H7,I7.AK,r7,q7⟩
end
theorem qZ{K:aq}{a:Addr}{xs:List V}{g:TG}{tb:TS}{D:Ends}{σ:St}{H:Hp}(Pv:Nat->St->Hp->Prop)(h0:Pv 0 σ H)(hl:∀i σ H,i<=xs.length->Pv i σ H->bW K H a xs)
  (hs:∀i x σ H,xs[i]? =some x->Pv i σ H->g x σ H fun σ2 H2=>tb {D with nx:=Pv (i+1),ct:=Pv (i+1),bk:=D.nx} σ2 H2)(hd:∀σ H,Pv xs.length σ H->D.nx σ H):
  ∃W:Nat->Nat->St->Hp->Prop,(∃m,W 0 m σ H)/\∀i m σ H,W i m σ H->
   ((Itl K a).stop i H/\D.nx σ H)\/((Itl K a).go i H/\∃N:St->Hp->Prop,(∀σ' H',N σ' H'->∃m',m'<m/\W (i+1) m' σ' H')/\∀x H',(Itl K a).LP i H x H'->g x σ H' fun σ2 H2=>tb {D with nx:=N,ct:=N,bk:=D.nx} σ2 H2):=by
 refine⟨fun i m σ H=>m=xs.length-i/\i<=xs.length/\Pv i σ H,⟨xs.length,by simp,bK _,h0⟩,?_⟩;rintro i m σ H ⟨rfl,hi,p⟩;have q:=hl i σ H hi p;by_cases lM:i<xs.length
 ·refine .inr ⟨⟨xs,xs[i],q,by simp[lM]⟩,Pv (i+1),fun σ' H' p'=>⟨xs.length-(i+1),by omega,rfl,lM,p'⟩,fun x H' y=>?_⟩;obtain⟨e,y⟩:=y;subst e;exact hs i x σ _ (y xs q) p
 ·have e:i=xs.length:=by omega
  subst e;exact .inl ⟨⟨xs,q,ao _⟩,hd σ H p⟩
theorem aay{K:aq}{a:Addr}{xs:List V}{g:TG}{tb:TS}{D:Ends}{σ:St}{H:Hp}(Pv:Nat->St->Hp->Prop)(h0:Pv 0 σ H)(hl:∀i σ H,i<=xs.length->Pv i σ H->wa K H a xs)
  (hs:∀i x σ H,xs[i]? =some x->Pv i σ H->g x σ H fun σ2 H2=>tb {D with nx:=Pv (i+1),ct:=Pv (i+1),bk:=D.nx} σ2 H2)(hd:∀σ H,Pv xs.length σ H->D.nx σ H):
  ∃W:Nat->Nat->St->Hp->Prop,(∃m,W 0 m σ H)/\∀i m σ H,W i m σ H->
   ((Itt K a).stop i H/\D.nx σ H)\/((Itt K a).go i H/\∃N:St->Hp->Prop,(∀σ' H',N σ' H'->∃m',m'<m/\W (i+1) m' σ' H')/\∀x H',(Itt K a).LP i H x H'->g x σ H' fun σ2 H2=>tb {D with nx:=N,ct:=N,bk:=D.nx} σ2 H2):=by
 refine⟨fun i m σ H=>m=xs.length-i/\i<=xs.length/\Pv i σ H,⟨xs.length,by simp,bK _,h0⟩,?_⟩;rintro i m σ H ⟨rfl,hi,p⟩;have q:=hl i σ H hi p;by_cases lM:i<xs.length
 ·refine .inr ⟨⟨xs,xs[i],q,by simp[lM]⟩,Pv (i+1),fun σ' H' p'=>⟨xs.length-(i+1),by omega,rfl,lM,p'⟩,fun x H' y=>?_⟩;obtain⟨e,y⟩:=y;subst e;exact hs i x σ _ (y xs q) p
 ·have e:i=xs.length:=by omega
  subst e;exact .inl ⟨⟨xs,q,ao _⟩,hd σ H p⟩
theorem Jy{lo:Int}{n:Nat}{g:TG}{tb:TS}{D:Ends}{σ:St}{H:Hp}(Pv:Nat->St->Hp->Prop)(h0:Pv 0 σ H)
  (hs:∀i σ H,i<n->Pv i σ H->g (.int (lo+i)) σ H fun σ2 H2=>tb {D with nx:=Pv (i+1),ct:=Pv (i+1),bk:=D.nx} σ2 H2)(hd:∀σ H,Pv n σ H->D.nx σ H):
  ∃W:Nat->Nat->St->Hp->Prop,(∃m,W 0 m σ H)/\∀i m σ H,W i m σ H->
   ((Y2 lo n).stop i H/\D.nx σ H)\/((Y2 lo n).go i H/\∃N:St->Hp->Prop,(∀σ' H',N σ' H'->∃m',m'<m/\W (i+1) m' σ' H')/\∀x H',(Y2 lo n).LP i H x H'->g x σ H' fun σ2 H2=>tb {D with nx:=N,ct:=N,bk:=D.nx} σ2 H2):=by
 refine⟨fun i m σ H=>m=n-i/\i<=n/\Pv i σ H,⟨n,by simp,bK _,h0⟩,?_⟩;rintro i m σ H ⟨rfl,hi,p⟩;by_cases lM:i<n
 ·refine .inr ⟨lM,Pv (i+1),fun σ' H' p'=>⟨n-(i+1),by omega,rfl,lM,p'⟩,fun x H' y=>?_⟩;obtain⟨e,y⟩:=y;subst e y;exact hs i σ _ lM p
 ·have e:i=n:=by omega
  subst e;exact .inl ⟨ao _,hd σ H p⟩
abbrev R2:=V->V->Hp->VK->Prop
def EO(X:Cx)(f:aj->aj->Sem aj)(r:R2):Prop:=
 ∀(pins:List (Addr×Obj)) (s:au) (σ:St) (H:Hp) (x y:V) (v u:aj) (Q:VK),Inv X pins σ H s->RelV x v->RelV y u->r x y H Q->
  wpAny (model X.prog X.w) X.A (f v u) (EP X pins σ Q) X.xe s
def UnR(X:Cx)(f:aj->Sem aj)(r:V->Hp->VK->Prop):Prop:=
 ∀(pins:List (Addr×Obj)) (s:au) (σ:St) (H:Hp) (x:V) (v:aj) (Q:VK),Inv X pins σ H s->RelV x v->r x H Q->
  wpAny (model X.prog X.w) X.A (f v) (EP X pins σ Q) X.xe s
def pZ(X:Cx)(f:aj)(r:List V->Hp->VK->Prop):Prop:=
 ∀(pins:List (Addr×Obj)) (s:au) (σ:St) (H:Hp) (xs:List V) (us:List aj) (Q:VK),Inv X pins σ H s->cZ xs us->r xs H Q->
  wpAny (model X.prog X.w) X.A (call f us) (EP X pins σ Q) X.xe s
def tOp(r:R2)(ta tb:TE):TE:=fun σ H Q=>ta σ H fun x H1=>tb σ H1 fun y H2=>r x y H2 Q
def tUn(r:V->Hp->VK->Prop)(ta:TE):TE:=fun σ H Q=>ta σ H fun x H1=>r x H1 Q
def rI(C:Int->Int->Prop)(g:Int->Int->V):R2:=fun x y H Q=>E2 fun i j=>A4 (x=.int i) (y=.int j) (C i j) (Q (g i j) H)
def YN(g:Int->Int->V):R2:=fun x y H Q=>E2 fun i j=>A3 (x=.int i) (y=.int j) (Q (g i j) H)
def rU(g:Int->V):V->Hp->VK->Prop:=fun x H Q=>∃i,x=.int i/\Q (g i) H
section
variable {X:Cx} {a b c:de} {ta tb tc:TE} {pos:sY}
theorem adZ(ha:PE X a ta)(hb:PE X b tb){pins:List (Addr×Obj)}{s:au}{σ:St}{H:Hp}{R:V->V->Hp->Prop}(I:Inv X pins σ H s)
  (h:ta σ H fun x H1=>tb σ H1 fun y H2=>R x y H2){Q:aj->au->Prop}{f:aj->aj->Sem aj}
  (hf:∀v u s2 x y H2,Inv X pins σ H2 s2->RelV x v->RelV y u->R x y H2->wpAny (model X.prog X.w) X.A (f v u) Q X.xe s2):
  wpAny (model X.prog X.w) X.A (eval a X.env) (fun v s₁=>wpAny (model X.prog X.w) X.A (eval b X.env) (fun u s₂=>wpAny (model X.prog X.w) X.A (f v u) Q X.xe s₂) X.xe s₁) X.xe s:=by
 refine iW (ha pins s σ H _ I h) fun v s1 ⟨x,H1,I1,r1,q1⟩=>?_
 refine iW (hb pins s1 σ H1 _ I1 q1) fun u s2 ⟨y,H2,I2,r2,q2⟩=>?_
 exact hf v u s2 x y H2 I2 r1 r2 q2
theorem gF{op:Operator}{r:R2}(ho:EO X (binaryOp op) r)(ha:PE X a ta)(hb:PE X b tb):PE X (.BinOp a op b pos) (tOp r ta tb):=by
 intro pins s σ H Q I h;exact wpAny_BinOp (adZ ha hb I h fun v u s2 x y H2 I2 rx ry q=>ho pins s2 σ H2 x y v u Q I2 rx ry q)
theorem MW{op:UnaryOp}{r:V->Hp->VK->Prop}(ho:UnR X (unaryOp op) r)(ha:PE X a ta):PE X (.UnaryOp op a pos) (tUn r ta):=by
 intro pins s σ H Q I h;exact UnaryOp_ (iW (ha pins s σ H _ I h) fun v s1 ⟨x,H1,I1,r1,q1⟩=>ho pins s1 σ H1 x v Q I1 r1 q1)
theorem opI{f:aj->aj->Sem aj}{C:Int->Int->Prop}{g:Int->Int->Int}
  (rule:∀(i j:Int) (t u:Vv) (s:au) (Q:aj->au->Prop) (E:aj->au->Prop),C i j->Q (.int (g i j) s.toks) {s with toks:=s.toks+1}->wpAny (model X.prog X.w) X.A (f (.int i t) (.int j u)) Q E s):
  EO X f (rI C fun i j=>.int (g i j)):=by
 intro pins s σ H x y v u Q I rx ry h;obtain⟨i,j,rfl,rfl,hc,q⟩:=h;obtain⟨t,rfl⟩:=rx;obtain⟨t',rfl⟩:=ry;exact rule i j t t' s _ _ hc ⟨.int (g i j),H,I.tok _,⟨_,rfl⟩,q⟩
theorem acH{f:aj->aj->Sem aj}{g:Int->Int->Int}
  (rule:∀(i j:Int) (t u:Vv) (s:au) (Q:aj->au->Prop) (E:aj->au->Prop),Q (.int (g i j) s.toks) {s with toks:=s.toks+1}->wpAny (model X.prog X.w) X.A (f (.int i t) (.int j u)) Q E s):
  EO X f (YN fun i j=>.int (g i j)):=by
 intro pins s σ H x y v u Q I rx ry h;obtain⟨i,j,rfl,rfl,q⟩:=h;obtain⟨t,rfl⟩:=rx;obtain⟨t',rfl⟩:=ry;exact rule i j t t' s _ _ ⟨.int (g i j),H,I.tok _,⟨_,rfl⟩,q⟩
theorem ZL{f:aj->aj->Sem aj}{g:Int->Int->Bool}
  (rule:∀(i j:Int) (t u:Vv) (s:au) (Q:aj->au->Prop) (E:aj->au->Prop),Q (.bool (g i j)) s->wpAny (model X.prog X.w) X.A (f (.int i t) (.int j u)) Q E s):
  EO X f (YN fun i j=>.bl (g i j)):=by
 intro pins s σ H x y v u Q I rx ry h;obtain⟨i,j,rfl,rfl,q⟩:=h;obtain⟨t,rfl⟩:=rx;obtain⟨t',rfl⟩:=ry;exact rule i j t t' s _ _ ⟨.bl (g i j),H,I,rfl,q⟩
def ad4(i j:Int):Prop:=(-(2^64)<i/\i<2^64)\/(-(2^64)<j/\j<2^64)
theorem ad4.ok{i j:Int}(h:ad4 i j):IntMulOk i j:=by
 rcases h with ⟨h1,h2⟩|⟨h1,h2⟩
 ·exact .of_left (intBits_le_64 h1 h2)
 ·exact .of_right (intBits_le_64 h1 h2)
theorem qR:EO X (binaryOp .Add) (YN fun i j=>.int (i+j)):=acH fun _ _ _ _ _ _ _ q=>add_int q
theorem CK:EO X (binaryOp .Sub) (YN fun i j=>.int (i-j)):=acH fun _ _ _ _ _ _ _ q=>sub_int q
theorem KA:EO X (binaryOp .Mult) (rI ad4 fun i j=>.int (i*j)):=opI fun _ _ _ _ _ _ _ hc q=>mul_int q hc.ok
theorem zZ:EO X (binaryOp .Mod) (rI (fun _ j=>0<j) fun i j=>.int (i %j)):=opI fun i j _ _ _ _ _ hc q=>by
 have h1:(0:Int)<j:=hc;exact mod_int' (by omega) (by rw[Int.fmod_eq_emod_of_nonneg i (by omega)];exact q)
theorem acG:EO X (binaryOp .BitAnd) (YN fun i j=>.int (YF i j)):=acH fun _ _ _ _ _ _ _ q=>and_int q
theorem unI{f:aj->Sem aj}{g:Int->Int}
  (rule:∀(i:Int) (t:Vv) (s:au) (Q:aj->au->Prop) (E:aj->au->Prop),Q (.int (g i) s.toks) {s with toks:=s.toks+1}->wpAny (model X.prog X.w) X.A (f (.int i t)) Q E s):
  UnR X f (rU fun i=>.int (g i)):=by
 intro pins s σ H x v Q I rx h;obtain⟨i,rfl,q⟩:=h;obtain⟨t,rfl⟩:=rx;exact rule i t s _ _ ⟨.int (g i),H,I.tok _,⟨_,rfl⟩,q⟩
theorem FO:UnR X (unaryOp .USub) (rU fun i=>.int (-i)):=unI fun _ _ _ _ _ q=>neg_int q
end
def aeZ:V->V->Bool
 |.lC,.lC=>true|.lC,.int _=>true|.int _,.lC=>true|.lC,.bl _=>true|.bl _,.lC=>true|.lC,.str _=>true|.str _,.lC=>true
 |.int _,.int _=>true|.bl _,.bl _=>true|.str _,.str _=>true|.OP _,.OP _=>true
 |.int _,.str _=>true|.str _,.int _=>true|.bl _,.str _=>true|.str _,.bl _=>true
 |_,_=>false
def rEq:R2:=fun x y H Q=>aeZ x y=true/\Q (.bl (decide (x=y))) H
def rNe:R2:=fun x y H Q=>aeZ x y=true/\Q (.bl (!decide (x=y))) H
theorem Sr{i j:Int}:decide (V.int i=V.int j)=(i==j):=by
 rw[yn];simp
theorem X4{i j:Bool}:decide (V.bl i=V.bl j)=(i==j):=by
 rw[yn];simp
theorem Sq{i j:Str}:decide (V.str i=V.str j)=(i==j):=by
 rw[yn];simp
theorem Ss{i j:Array UInt8}:decide (V.OP i=V.OP j)=(i.toList==j.toList):=by
 rw[yn];cases i;cases j;simp
section
variable {X:Cx} {a b c:de} {ta tb tc:TE} {pos:sY}
theorem fX{pins:List (Addr×Obj)}{σ:St}{H:Hp}{s:au}{Q:VK}{k k':Bool}(I:Inv X pins σ H s)(q:Q (.bl k) H)(e:k=k'):EP X pins σ Q (.bool k') s:=by
 subst e;exact⟨.bl k,H,I,rfl,q⟩
theorem vC:EO X (compareOp .Eq) rEq:=by
 intro pins s σ H x y v u Q I rx ry h;obtain⟨hs,q⟩:=h;cases x with
 |lC=>
  cases rx;cases y with
  |lC=>cases ry;exact PySem.EqNone.eq_none_none (fX I q (by simp))
  |bl j=>cases ry;exact PySem.EqNone.eq_none_bool (fX I q (by simp))
  |int j=>obtain⟨t',rfl⟩:=ry;exact PySem.EqNone.eq_none_int (fX I q (by simp))
  |str j=>obtain⟨t',rfl⟩:=ry;exact PySem.EqNone.eq_none_str (fX I q (by simp))
  |_=>exact absurd (show false=true from hs) br
 |bl i=>
  cases rx;cases y with
  |lC=>cases ry;exact PySem.EqNone.eq_bool_none (fX I q (by simp))
  |bl j=>cases ry;exact eq_bool (fX I q X4)
  |str j=>obtain⟨t',rfl⟩:=ry;exact PySem.EqMixed.eq_bool_str (fX I q (by simp))
  |_=>exact absurd (show false=true from hs) br
 |int i=>
  obtain⟨t,rfl⟩:=rx;cases y with
  |lC=>cases ry;exact PySem.EqNone.eq_int_none (fX I q (by simp))
  |int j=>obtain⟨t',rfl⟩:=ry;exact eq_int (fX I q Sr)
  |str j=>obtain⟨t',rfl⟩:=ry;exact PySem.EqMixed.eq_int_str (fX I q (by simp))
  |_=>exact absurd (show false=true from hs) br
 |str i=>
  obtain⟨t,rfl⟩:=rx;cases y with
  |lC=>cases ry;exact PySem.EqNone.eq_str_none (fX I q (by simp))
  |bl j=>cases ry;exact PySem.EqMixed.eq_str_bool (fX I q (by simp))
  |int j=>obtain⟨t',rfl⟩:=ry;exact PySem.EqMixed.eq_str_int (fX I q (by simp))
  |str j=>obtain⟨t',rfl⟩:=ry;exact eq_str (fX I q Sq)
  |_=>exact absurd (show false=true from hs) br
 |OP i=>
  obtain⟨t,rfl⟩:=rx;cases y with
  |OP j=>obtain⟨t',rfl⟩:=ry;exact PySem.W.eq_bytes (fX I q Ss)
  |_=>exact absurd (show false=true from hs) br
 |_=>cases y<;>exact absurd (show false=true from hs) br
theorem RH:EO X (compareOp .NotEq) rNe:=by
 intro pins s σ H x y v u Q I rx ry h;obtain⟨hs,q⟩:=h;cases x with
 |lC=>
  cases rx;cases y with
  |lC=>cases ry;exact PySem.EqNone.ne_none_none (fX I q (by simp))
  |bl j=>cases ry;exact PySem.EqNone.ne_none_bool (fX I q (by simp))
  |int j=>obtain⟨t',rfl⟩:=ry;exact PySem.EqNone.ne_none_int (fX I q (by simp))
  |str j=>obtain⟨t',rfl⟩:=ry;exact PySem.EqNone.ne_none_str (fX I q (by simp))
  |_=>exact absurd (show false=true from hs) br
 |bl i=>
  cases rx;cases y with
  |lC=>cases ry;exact PySem.EqNone.ne_bool_none (fX I q (by simp))
  |bl j=>cases ry;exact ne_bool (fX I q (congrArg not X4))
  |str j=>obtain⟨t',rfl⟩:=ry;exact PySem.EqMixed.ne_bool_str (fX I q (by simp))
  |_=>exact absurd (show false=true from hs) br
 |int i=>
  obtain⟨t,rfl⟩:=rx;cases y with
  |lC=>cases ry;exact PySem.EqNone.ne_int_none (fX I q (by simp))
  |int j=>obtain⟨t',rfl⟩:=ry;exact ne_int (fX I q (congrArg not Sr))
  |str j=>obtain⟨t',rfl⟩:=ry;exact PySem.EqMixed.ne_int_str (fX I q (by simp))
  |_=>exact absurd (show false=true from hs) br
 |str i=>
  obtain⟨t,rfl⟩:=rx;cases y with
  |lC=>cases ry;exact PySem.EqNone.ne_str_none (fX I q (by simp))
  |bl j=>cases ry;exact PySem.EqMixed.ne_str_bool (fX I q (by simp))
  |int j=>obtain⟨t',rfl⟩:=ry;exact PySem.EqMixed.ne_str_int (fX I q (by simp))
  |str j=>obtain⟨t',rfl⟩:=ry;exact ne_str (fX I q (congrArg not Sq))
  |_=>exact absurd (show false=true from hs) br
 |OP i=>
  obtain⟨t,rfl⟩:=rx;cases y with
  |OP j=>obtain⟨t',rfl⟩:=ry;exact PySem.W.ne_bytes (fX I q (congrArg not Ss))
  |_=>exact absurd (show false=true from hs) br
 |_=>cases y<;>exact absurd (show false=true from hs) br
theorem RI:EO X (compareOp .Lt) (YN fun i j=>.bl (decide (i<j))):=ZL fun _ _ _ _ _ _ _ q=>lt_int q
theorem abh:EO X (compareOp .LtE) (YN fun i j=>.bl (decide (i<=j))):=ZL fun _ _ _ _ _ _ _ q=>le_int q
theorem zc:EO X (compareOp .Gt) (YN fun i j=>.bl (decide (j<i))):=ZL fun _ _ _ _ _ _ _ q=>gt_int q
theorem ae9:EO X (compareOp .GtE) (YN fun i j=>.bl (decide (j<=i))):=ZL fun _ _ _ _ _ _ _ q=>ge_int q
theorem fP(b:de){op:CmpOp}(h:op≠ .In:=by decide)(h2:op≠ .NotIn:=by decide):behindInMarks op b=false:=by
 have e1:(op==CmpOp.In)=false:=by cases op<;>first|rfl|exact absurd rfl h
 have e2:(op==CmpOp.NotIn)=false:=by cases op<;>first|rfl|exact absurd rfl h2
 cases b<;>simp[behindInMarks,e1,e2]
theorem yy{op:CmpOp}{r:R2}(ho:EO X (compareOp op) r)(ha:PE X a ta)(hb:PE X b tb)(hm:behindInMarks op b=false):PE X (.Compare a [op] [b] pos) (tOp r ta tb):=by
 intro pins s σ H Q I h;exact wpAny_Compare1 (adZ ha hb I h fun v u s2 x y H2 I2 rx ry q=>ho pins s2 σ H2 x y v u Q I2 rx ry q) hm
def aaZ(t:TE):TT:=fun σ H Q=>t σ H fun x H'=>∃k,x=.bl k/\Q k H'
theorem eP{op:CmpOp}{r:R2}(ho:EO X (compareOp op) r)(ha:PE X a ta)(hb:PE X b tb)(hm:behindInMarks op b=false):PT X (.Compare a [op] [b] pos) (aaZ (tOp r ta tb)):=by
 intro pins s σ H Q I h;refine wpAny_isTrue_Compare1 (iW (ha pins s σ H _ I h) fun v s1 ⟨x,H1,I1,r1,q1⟩=>iW (hb pins s1 σ H1 _ I1 q1) fun u s2 ⟨y,H2,I2,r2,q2⟩=>
  iW (ho pins s2 σ H2 x y v u _ I2 r1 r2 q2) fun c s3 ⟨z,H3,I3,r3,k,e,q3⟩=>?_) hm
 subst e;cases r3;exact lD ⟨H3,I3,q3⟩
def VW(r r':R2)(ta tb tc:TE):TE:=fun σ H Q=>ta σ H fun x H1=>tb σ H1 fun y H2=>r x y H2 fun z H3=>∃k,z=.bl k/\(if k=true then tc σ H3 fun w' H4=>r' y w' H4 Q else Q (.bl false) H3)
theorem WK{op op':CmpOp}{r r':R2}(ho:EO X (compareOp op) r)(Vn:EO X (compareOp op') r')(ha:PE X a ta)(hb:PE X b tb)(hc:PE X c tc)
  (hm:lastMarks [op,op'] [b,c]=false:=by with_unfolding_all rfl):PE X (.Compare a [op,op'] [b,c] pos) (VW r r' ta tb tc):=by
 intro pins s σ H Q I h;refine Compare_chain (iW (ha pins s σ H _ I h) fun v s1 ⟨x,H1,I1,r1,q1⟩=>chain_link (iW (hb pins s1 σ H1 _ I1 q1) fun u s2 ⟨y,H2,I2,r2,q2⟩=>
  iW (ho pins s2 σ H2 x y v u _ I2 r1 r2 q2) fun d s3 ⟨z,H3,I3,r3,k,e,q3⟩=>?_)) hm
 subst e;cases r3;refine lD ?_;cases k with
 |false=>exact ite_ff ⟨.bl false,H3,I3,rfl,q3⟩
 |true=>exact ite_tt (chain_last (iW (hc pins s3 σ H3 _ I3 q3) fun w' s4 ⟨z',H4,I4,r4,q4⟩=>Vn pins s4 σ H4 y z' u w' Q I4 r2 r4 q4))
theorem KS:(sizeLine:Nat)<2^63:=by rw[sizeLine_eq];decide
theorem vals1{x:V}{us:List aj}(r:cZ [x] us):∃u,us=[u]/\RelV x u:=by
 cases r with
 |cons r1 r2=>cases r2;exact⟨_,rfl,r1⟩
theorem vals2{x y:V}{us:List aj}(r:cZ [x,y] us):∃u w',us=[u,w']/\RelV x u/\RelV y w':=by
 cases r with
 |cons r1 r2=>
  cases r2 with
  |cons r3 r4=>cases r4;exact⟨_,_,rfl,r1,r3⟩
theorem UR(hc:X.calm=true):pZ X (.builtin "min") (fun xs H Q=>∃i j,xs=[.int i,.int j]/\Q (.int (if j<i then j else i)) H):=by
 intro pins s σ H xs us Q I r h;obtain⟨i,j,rfl,q⟩:=h;obtain⟨u,w',rfl,⟨t,rfl⟩,⟨t',rfl⟩⟩:=vals2 r;refine min_two_ints (I.ok.hd hc) fun h' tk k=>⟨_,H,I.kept k,?_,q⟩
 by_cases hj:j<i
 ·rw[if_pos hj,if_pos hj];exact⟨_,rfl⟩
 ·rw[if_neg hj,if_neg hj];exact⟨_,rfl⟩
theorem Lo:pZ X (.type "str") (fun xs H Q=>∃i,xs=[.int i]/\i.natAbs.log2<1920/\Q (.str (toString i)) H):=by
 intro pins s σ H xs us Q I r h;obtain⟨i,rfl,hz,q⟩:=h;obtain⟨u,rfl,t,rfl⟩:=vals1 r;exact PySem.P.str_of_int hz ⟨.str _,H,I.tok _,⟨_,rfl⟩,q⟩
theorem Yk:pZ X (.builtin "ord") (fun xs H Q=>∃x,xs=[.str x]/\x.length=1/\Q (.int (x.cps.getD 0 0:Nat)) H):=by
 intro pins s σ H xs us Q I r h;obtain⟨x,rfl,hz,q⟩:=h;obtain⟨u,rfl,t,rfl⟩:=vals1 r;exact ord_of_one hz ⟨.int _,H,I.tok _,⟨_,rfl⟩,q⟩
end
structure QM(h:Heap)(x dx C:Addr)(mA:Str->Option aj):Prop where
 obj:h.get? x=some (iZ C dx)
 ns:h.Ns1 dx mA
 ne:dx≠x
theorem Um{h:Heap}{dx:Addr}{mA:Str->Option aj}(n:h.Ns1 dx mA):∃od,h.get? dx=some od/\∀name,yf name od=some (mA name):=by
 obtain⟨o,es,ep,ho,hd,hk,_,hm⟩:=n;refine⟨o,ho,fun name=>?_⟩;have e:=hm name;unfold nsFind findBy at e;rw[<-Array.find?_toList]at e;unfold yf;rw[hd];dsimp only;split
 ·rename_i y q;rw[q]at e;exact congrArg some e
 ·rename_i q;rw[q]at e;have a:es.toList.any (·.refKey)=false:=by
   rw[uG];intro y hy;obtain⟨z,t,Uw⟩:=hk y (Array.mem_toList_iff.mp hy);simp[DictEntry.refKey,Uw]
  have a':¬es.toList.any (·.refKey)=true:=by rw[a];exact br
  rw[if_neg a'];exact congrArg some e
theorem QM.look{h:Heap}{x dx C:Addr}{mA:Str->Option aj}(I:QM h x dx C mA):∃od,PySem.W.InstAt h x (iZ C dx) C (some od)/\∀name,yf name od=some (mA name):=
 let ⟨od,ho,hl⟩:=Um I.ns
 ⟨od,⟨I.obj,rfl,rfl,ho⟩,hl⟩
section
variable {prog:bw} {w:bQ} {A:cR} {E:aj->au->Prop} {s:au} {K:aq} {x dx C f:Addr} {mA:Str->Option aj} {name:Str} {v:aj}
theorem get_map{expr:Bool}{Q:aj->au->Prop}(X:K.In s.heap)(I:QM s.heap x dx C mA)(hg:oK K C name=true)(hh:sX K C=true)
  (ha:eW K (.ref C) name=some none)(hv:mA name=some v)(hv':Vf v=true)(h:Q v {s with toks:=s.toks+1}):
  wpAny (model prog w) A (getAttr (.ref x) name expr) Q E s:=by
 obtain⟨od,J,hl⟩:=I.look;exact PySem.W.get_value X J (yW hg).1 (PySem.W.findObj_own hh ha rfl (by rw[hl,hv])) hv' h
theorem XF{pl:Sem Bool}{Q:aj×List aj->au->Prop}(X:K.In s.heap)(I:QM s.heap x dx C mA)(hg:oK K C name=true)
  (hf:eW K (.ref C) name=some (some (.ref f)))(ht:vn K (.ref f)=true)(hv:mA name=none)(h:Q (.ref f,[.ref x]) s):
  wpAny (model prog w) A (getMethod (.ref x) name pl) Q E s:=by
 obtain⟨od,J,hl⟩:=I.look;exact PySem.W.method_fn X J (yW hg).1 (yW hg).2 hf (beq_iff_eq.mp ht) (by show(yf name od).map (·.isSome)=some false;rw[hl,hv];rfl) h
theorem Zp{ns:List Str}{Q:Unit->au->Prop}(X:K.In s.heap)(I:QM s.heap x dx C mA)
  (hs:eW K (.ref C) "__setattr__" =some (some (.builtin "object.__setattr__")))(hp:BR K C=true)(ht:ES K C name=some none)(hh:sX K C=true)
  (hw:OF mA ns)(hsz:ns.length<=sizeLine)
  (h:∀h',QM h' x dx C (fun y=>if y=name then some v else mA y)->Heap.SameBut dx s.heap h'->Q () {s with heap:=h',toks:=s.toks+2}):
  wpAny (model prog w) A (setAttr (.ref x) name v) Q E s:=by
 obtain⟨od,J,hl⟩:=I.look;refine PySem.W.set_plain X J hs (PySem.W.osa_open (s:={s with toks:=s.toks+1}) (r:=none) X J hp ht fun b=>?_);obtain⟨cd,hc,Uz⟩:=PySem.W.any_some hh;have hx:s.heap.get? x=some ⟨.ref C,some dx,.plain,#[]⟩:=I.obj;refine ag (aD (ag (ag (wpAny_loadPart hx (ag (PySem.W.Looks.here (s:={s with toks:=s.toks+1}) (PySem.W.looks_clsIn X hc) ?_))))));rw[Uz];refine aD (a:=some dx) (ag (aD (ag ?_)));refine wpAny_nsSet1 (s:={s with toks:=s.toks+1}) I.ns fun h' hn2 hs2=>?_
 obtain⟨oD,esD,epD,hoD,hdD,hcD⟩:=hn2.count (PySem.Within.cons name v hw);refine ag (wpAny_lookBehind hoD (by rw[hdD];exact pastItsLine_dict (bN hcD (by rw[az];omega))) ?_);exact aD (h _ ⟨(hs2.2 _ (bT I.ne)).trans I.obj,hn2,I.ne⟩ hs2)
theorem Xc{R:Result->au->Prop}{vs:List aj}{kw:List (Str×aj)}(X:K.In s.heap)(hm:ET K C=true)
  (hi:eW K (.ref C) "__init__" =some (some (.ref f)))(hf:PySem.W.typeIn K (.ref f)=some (.type "function"))
  (h:codeAny (model prog w) (A.under (.builtin "type.__call__" ⟨.ref C::vs,kw⟩)) (.call (.ref f) ⟨.ref (s.heap.objs.size+1)::vs,kw⟩) (PySem.W.InitBack (s.heap.objs.size+1) R)
   {s with heap:=(s.heap.push gn).push (iZ C s.heap.objs.size)}):
  codeAny (model prog w) A (.call (.ref C) ⟨vs,kw⟩) R s:=by
 obtain⟨hh,g,d,t,os⟩:=s;exact PySem.W.make_core (PySem.W.makes_of X hm) (PySem.W.looks_findIn X hi) (fun self=>PySem.W.bind_fn X self hf) (.inl rfl) h
end
def pL(f:Str)(v:V):List (Str×V)->List (Str×V)
 |[]=>[(f,v)]
 |(g,x)::r=>if g=f then(g,v)::r else(g,x)::pL f v r
theorem DL(f g:Str)(v:V):∀fs:List (Str×V),(pL f v fs).lookup g=if g=f then some v else fs.lookup g
 |[]=>by
  show nJ g [(f,v)]=_;by_cases h:g=f
  ·have hb:(g==f)=true:=beq_iff_eq.mpr h;simp only[nJ,hb,if_pos h]
  ·have hb:(g==f)=false:=beq_eq_false_iff_ne.mpr h;simp only[nJ,hb,if_neg h]
 |(k,x)::r=>by
  have ih:=DL f g v r;rw[show pL f v ((k,x)::r)=(if k=f then(k,v)::r else(k,x)::pL f v r)from rfl];by_cases hk:k=f
  ·rw[if_pos hk];by_cases h:g=k
   ·have hb:(g==k)=true:=beq_iff_eq.mpr h;simp only[nJ,hb,if_pos (h.trans hk)]
   ·have hb:(g==k)=false:=beq_eq_false_iff_ne.mpr h;simp only[nJ,hb,if_neg (fun e:g=f=>h (e.trans hk.symm))]
  ·rw[if_neg hk];by_cases h:g=k
   ·have hb:(g==k)=true:=beq_iff_eq.mpr h;simp only[nJ,hb,if_neg (fun e:g=f=>hk (h.symm.trans e))]
   ·have hb:(g==k)=false:=beq_eq_false_iff_ne.mpr h;simp only[nJ,hb];exact ih
theorem CZ(f:Str)(v:V):∀fs:List (Str×V),f∈(pL f v fs).map (·.1)/\∀g,g∈fs.map (·.1)->g∈(pL f v fs).map (·.1)
 |[]=>⟨by simp[pL],fun g h=>by simp at h⟩
 |(k,x)::r=>by
  obtain⟨i1,i2⟩:=CZ f v r;rw[show pL f v ((k,x)::r)=(if k=f then(k,v)::r else(k,x)::pL f v r)from rfl];by_cases hk:k=f
  ·rw[if_pos hk];subst hk;exact⟨by simp,fun g h=>by simpa using h⟩
  ·rw[if_neg hk];refine⟨?_,fun g h=>?_⟩
   ·rw[bo];exact aA _ i1
   ·rw[bo]at h⊢;rcases aM.mp h with e|e
    ·exact aM.mpr (.inl e)
    ·exact aA _ (i2 g e)
theorem DP(f:Str)(v:V):∀fs:List (Str×V),(pL f v fs).length<=fs.length+1
 |[]=>by simp[pL]
 |(k,x)::r=>by
  have ih:=DP f v r;rw[show pL f v ((k,x)::r)=(if k=f then(k,v)::r else(k,x)::pL f v r)from rfl];by_cases hk:k=f
  ·rw[if_pos hk,az,az];omega
  ·rw[if_neg hk,az,az];omega
theorem yU.some_of{v:V}{o:Option aj}(r:yU (some v) o):∃u,o=some u/\RelV v u:=by
 cases o with
 |none=>exact(show False from r).elim
 |some u=>exact⟨u,rfl,r⟩
theorem yU.none_of{o:Option aj}(r:yU none o):o=none:=by
 cases o with
 |none=>rfl
 |some u=>exact(show False from r).elim
theorem UB{v:V}{u:aj}(r:RelV v u):Vf u=true:=by
 cases v with
 |lC=>cases (show u=vX from r);rfl
 |bl b=>cases (show u=pF b from r);rfl
 |int i=>obtain⟨t,e⟩:=(show ∃t,u=lB i t from r);cases e;rfl
 |str x=>obtain⟨t,e⟩:=(show ∃t,u=L0 x t from r);cases e;rfl
 |OP b=>obtain⟨t,e⟩:=(show ∃t,u=Value.bytes b t from r);cases e;rfl
 |flt b=>obtain⟨t,e⟩:=(show ∃t,u=Value.float b t from r);cases e;rfl
 |ref a=>cases (show u=eQ a from r);rfl
 |ty n=>cases (show u=pE n from r);rfl
section
variable {P:bw} {w:bQ} {H H':Hp} {h h':Heap} {a C dx:Addr} {fs YY:List (Str×V)}
theorem KZ(gR:yd P w H h)(e:H a=some (.ins C dx fs)):∃mA,QM h a dx C mA/\(∀f,yU (fs.lookup f) (mA f))/\OF mA (fs.map (·.1))/\fs.length<=1000/\H dx=some (.own a):=by
 obtain⟨d,z,ne,ob,mA,n,r,q⟩:=(show i9 P w H h a (.ins C dx fs)from gR a _ e);exact⟨mA,⟨ob,n,ne⟩,r,q,z,d⟩
end
structure HD(K:aq)(C:Addr):Prop where
 pg:oK K C Str.empty=true
 hd:sX K C=true
 po:BR K C=true
 sa:eW K (.ref C) "__setattr__" =some (some (.builtin "object.__setattr__"))
theorem HD.get{K:aq}{C:Addr}(c:HD K C)(f:Str):oK K C f=true:=c.pg
def dR(K:aq)(C:Addr)(f:Str):Prop:=eW K (.ref C) f=some none
theorem dR.aeA{K:aq}{C:Addr}{f:Str}(n:dR K C f):ES K C f=some none:=by
 unfold ES;rw[show eW K (.ref C) f=some none from n];rfl
structure aaU(K:aq)(C:Addr)(m:Str)(f:Addr):Prop where
 at_:eW K (.ref C) m=some (some (.ref f))
 fn:vn K (.ref f)=true
 kp:eV K (.ref f)=true
section
variable {X:Cx} {pins:List (Addr×Obj)} {σ:St} {H:Hp} {s:au} {a C dx:Addr} {fs:List (Str×V)} {f:Str} {v:V} {A:cR} {E:aj->au->Prop}
theorem Hb{b:Bool}{Q:aj->au->Prop}(I:Inv X pins σ H s)(e:H a=some (.ins C dx fs))(c:HD X.K C)(n:dR X.K C f)(l:fs.lookup f=some v)
  (h:∀u s',Inv X pins σ H s'->RelV v u->Q u s'):wpAny (model X.prog X.w) A (getAttr (.ref a) f b) Q E s:=by
 obtain⟨mA,O,r,_,_,_⟩:=KZ I.gR e;obtain⟨u,hu,ru⟩:=yU.some_of (v:=v) (o:=mA f) (by rw[<-l];exact r f);exact get_map I.Nr O (c.get f) c.hd n hu (UB ru) (h u _ (I.tok _) ru)
theorem Ha{m:Str}{g:Addr}{pl:Sem Bool}{Q:aj×List aj->au->Prop}(I:Inv X pins σ H s)(e:H a=some (.ins C dx fs))(c:HD X.K C)(k:aaU X.K C m g)(l:fs.lookup m=none)
  (h:Q (.ref g,[.ref a]) s):wpAny (model X.prog X.w) A (getMethod (.ref a) m pl) Q E s:=by
 obtain⟨mA,O,r,_,_,_⟩:=KZ I.gR e;have hn:mA m=none:=yU.none_of (by rw[<-l];exact r m);exact XF I.Nr O (c.get m) k.at_ k.fn hn h
theorem FY{y:V}{u:aj}{Q:Unit->au->Prop}(I:Inv X pins σ H s)(e:H a=some (.ins C dx fs))(c:HD X.K C)(n:dR X.K C f)(hl:fs.length<1000)(ry:RelV y u)
  (h:∀s',Inv X pins σ (upd H a (.ins C dx (pL f y fs))) s'->Q () s'):wpAny (model X.prog X.w) A (setAttr (.ref a) f u) Q E s:=by
 obtain⟨mA,O,r,wi,_,ho⟩:=KZ I.gR e;have hz:(fs.map (·.1)).length<=sizeLine:=by rw[ae,sizeLine_eq];omega
 refine Zp I.Nr O c.sa c.po n.aeA c.hd wi hz fun h' O' sb=>h _ ?_
 have hd:∃o,h'.get? dx=some o:=let ⟨o,_,_,e',_⟩:=O'.ns;⟨o,e'⟩;refine I.write (x:=a) (e:=dx) (by rw[e];exact sW) (.inr ho) (fun b q hb z=>(sb.2 b hb).trans z) hd ?_;refine⟨by rw[cq O.ne];exact ho,?_,O.ne,O'.obj,_,O'.ns,fun g=>?_,fun g hg=>?_⟩
 ·have:=DP f y fs;omega
 ·show yU ((pL f y fs).lookup g) (if g=f then some u else mA g);rw[DL];by_cases q:g=f
  ·rw[if_pos q,if_pos q];exact ry
  ·rw[if_neg q,if_neg q];exact r g
 ·by_cases q:g=f
  ·rw[q];exact(CZ f y fs).1
  ·refine(CZ f y fs).2 g (wi g fun z=>hg ?_);show(if g=f then some u else mA g)=none;rw[if_neg q];exact z
theorem Inv.made(I:Inv X pins σ H s):Inv X pins σ (upd (upd H s.heap.objs.size (.own (s.heap.objs.size+1))) (s.heap.objs.size+1) (.ins C s.heap.objs.size []))
  {s with heap:=(s.heap.push gn).push (iZ C s.heap.objs.size)}:=by
 have e1:(s.heap.push gn).get? s.heap.objs.size=some gn:=Heap.get?_push_size s.heap rfl;have e2:((s.heap.push gn).push (iZ C s.heap.objs.size)).get? (s.heap.objs.size+1)=some (iZ C s.heap.objs.size):=by
  have:=Heap.get?_push_size (s.heap.push gn) (o:=iZ C s.heap.objs.size) rfl
  rwa [Heap.size_push]at this
 have e3:(s.heap.push gn).Ns s.heap.objs.size (fun _=>none):=⟨gn,#[],_,e1,rfl,(fun e he=>absurd he (by simp)),fun _=>rfl⟩;have I1:=I.laid (a:=s.heap.objs.size) (o:=.own (s.heap.objs.size+1)) (h':=s.heap.push gn) (t':=s.toks) (fun b u q=>Heap.get?_push_of_some _ q) (ao _) ⟨_,e1⟩;refine I1.laid (a:=s.heap.objs.size+1) (o:=.ins C s.heap.objs.size []) (t':=s.toks) (fun b u q=>Heap.get?_push_of_some _ q) (E6 (Heap.size_push _ _)) ?_;have ne:s.heap.objs.size≠s.heap.objs.size+1:=bE (v7 _);refine⟨by rw[cq ne,ak],bK _,ne,e2,fun _=>none,(Heap.Ns1.of_empty e3).at fun o q=>Heap.get?_push_of_some _ q,fun _=>sW,fun y hy=>absurd rfl hy⟩
theorem aaL{prog:bw}{w:bQ}{env:OG}{e:de}{f:Str}{pos:sY}{s:au}{Q:aj->au->Prop}(hb:attributeBase e f env (eval e env)=eval e env)
  (h:wpAny (model prog w) A (eval e env) (fun o s₁=>wpAny (model prog w) A (getAttr o f true) Q E s₁) E s):wpAny (model prog w) A (eval (.Attribute e f pos) env) Q E s:=
 Attribute_any_ h (by rw[arm_eval_Attribute,hb])
end
def ab1(K:aq)(ta:TE)(f:Str):TE:=fun σ H Q=>ta σ H fun x H1=>E5 fun a C dx fs v=>A6 (x=.ref a) (H1 a=some (.ins C dx fs)) (HD K C) (dR K C f) (fs.lookup f=some v) (Q v H1)
def ae0(K:aq)(ta tv:TE)(f:Str):TS:=fun D σ H=>tv σ H fun y H1=>ta σ H1 fun x H2=>E4 fun a C dx fs=>A6 (x=.ref a) (H2 a=some (.ins C dx fs)) (HD K C) (dR K C f) (fs.length<1000) (D.nx σ (upd H2 a (.ins C dx (pL f y fs))))
def agE(X:Cx)(op:Operator)(rd:V->V->Hp->VK->Prop):Prop:=
 ∀(pins:List (Addr×Obj)) (s:au) (σ:St) (H:Hp) (x y:V) (u v:aj) (Q:VK),Inv X pins σ H s->RelV x u->RelV y v->rd x y H Q->wpAny (model X.prog X.w) X.A (inplaceOp op u v) (EP X pins σ Q) X.xe s
def Rq(K:aq)(ta tv:TE)(rd:V->V->Hp->VK->Prop)(f:Str):TS:=fun D σ H=>ta σ H fun x H1=>E5 fun a C dx fs v=>A6 (x=.ref a) (H1 a=some (.ins C dx fs)) (HD K C) (dR K C f) (fs.lookup f=some v) (tv σ H1 fun y H2=>rd v y H2 fun z H3=>∃dx' YY,H3 a=some (.ins C dx' YY)/\YY.length<1000/\D.nx σ (upd H3 a (.ins C dx' (pL f z YY))))
section
variable {X:Cx} {o e value:de} {f:Str} {pos pos' zK:sY} {ta tv:TE}
theorem aQ(he:PE X e ta)(hb:attributeBase e f X.env (eval e X.env)=eval e X.env):PE X (.Attribute e f pos) (ab1 X.K ta f):=by
 intro pins s σ H Q I h;refine aaL hb (iW (he pins s σ H _ I h) fun u s1 ⟨x,H1,I1,rx,a,C,dx,fs,v,ex,ea,c,n,l,q⟩=>?_);subst ex;obtain rfl:u=eQ a:=rx;exact Hb I1 ea c n l fun u' s2 I2 ru=>⟨v,H1,I2,ru,q⟩
theorem eR(ha:PE X o ta)(hv:PE X value tv)(hs:swapsWith value (some (.Attribute o f pos')) pos.line X.env=pure false):PS X (.Assign [.Attribute o f pos'] value pos) (ae0 X.K ta tv f):=by
 intro pins s σ H D I h;refine plainObj_wpAny_Assign_Attribute (iW (hv pins s σ H _ I h) fun u s1 ⟨y,H1,I1,ry,q⟩=>iW (ha pins s1 σ H1 _ I1 q) fun ov s2 ⟨x,H2,I2,rx,a,C,dx,fs,ex,ea,c,n,l,q2⟩=>?_) hs;subst ex;obtain rfl:ov=eQ a:=rx;exact FY I2 ea c n l ry fun s3 I3=>⟨σ,_,I3,q2⟩
theorem Cy{op:Operator}{rd:V->V->Hp->VK->Prop}(ha:PE X o ta)(hv:PE X value tv)(hop:agE X op rd):PS X (.AugAssign (.Attribute o f zK) op value pos) (Rq X.K ta tv rd f):=by
 intro pins s σ H D I h;refine wpAny_AugAssign_AttributeAny (iW (ha pins s σ H _ I h) fun ov s1 ⟨x,H1,I1,rx,a,C,dx,fs,v,ex,ea,c,n,l,q⟩=>?_);subst ex;obtain rfl:ov=eQ a:=rx;refine Hb I1 ea c n l fun u s2 I2 ru=>iW (hv pins s2 σ H1 _ I2 q) fun w3 s3 ⟨y,H2,I3,ry,q3⟩=>iW (hop pins s3 σ H2 v y u w3 _ I3 ru ry q3) fun w4 s4 ⟨z,H3,I4,rz,dx',YY,ea',l',q4⟩=>?_
 exact FY I4 ea' c n l' rz fun s5 I5=>⟨σ,_,I5,q4⟩
def ahM:V->V->Hp->VK->Prop:=fun x y H Q=>E2 fun i j=>A3 (x=.int i) (y=.int j) (Q (.int (i+j)) H)
theorem Qi:agE X .Add ahM:=by
 rintro pins s σ H x y u v Q I rx ry ⟨i,j,rfl,rfl,q⟩;obtain⟨t,rfl⟩:=(show ∃t,u=lB i t from rx);obtain⟨t',rfl⟩:=(show ∃t',v=lB j t' from ry);exact PyProof.Rows.iadd_int ⟨.int (i+j),H,I.tok _,⟨_,rfl⟩,q⟩
end
section
variable {X:Cx} {pins:List (Addr×Obj)} {σ:St} {H:Hp} {s:au} {A:cR} {E:aj->au->Prop} {Q:aj->au->Prop} {c:aj} {b:Bool}
end
structure nE(k:Nat)(A:cR):Prop where
 hd:A.handled=none
 dp:A.depth+3*k+5<recursionLimit
 un:A.units+16*k+200<cLine
theorem nE.mono{j k:Nat}{A:cR}(r:nE k A)(h:j<=k:=by decide):nE j A:=⟨r.hd,by have:=r.dp;omega,by have:=r.un;omega⟩
theorem nE.deeper{k:Nat}{A:cR}(r:nE (k+1) A)(env:OG):nE k (A.deeper env):=
 ⟨r.hd,by have:=r.dp;show A.depth+1+3*k+5<_;omega,by have:=r.un;show A.units+3+16*k+200<_;omega⟩
theorem PZ{A:cR}{C:Addr}{us:List aj}{kw:List (Str×aj)}:(A.under (.builtin "type.__call__" ⟨.ref C::us,kw⟩)).depth=A.depth+1:=by
 first|rfl|simp[L8,Code.weight,Code.isCreation,Code.isGuard,Code.isCaller,Code.frames,OR,guardIds]
theorem PY{A:cR}{C:Addr}{us:List aj}{kw:List (Str×aj)}:(A.under (.builtin "type.__call__" ⟨.ref C::us,kw⟩)).units=A.units+1:=by
 first|rfl|simp[L8,Code.cUnits,Code.frames,OR]
theorem nE.make{k:Nat}{A:cR}(r:nE (k+1) A)(C:Addr)(us:List aj)(kw:List (Str×aj)):nE k (A.under (.builtin "type.__call__" ⟨.ref C::us,kw⟩)):=
 ⟨r.hd,by have:=r.dp;rw[PZ];omega,by have:=r.un;rw[PY];omega⟩
theorem nE.depth{k:Nat}{A:cR}(r:nE k A):A.depth<recursionLimit:=by have:=r.dp;omega
theorem nE.units{k:Nat}{A:cR}(r:nE k A):A.units+64<cLine:=by have:=r.un;omega
def VR:TA:=fun _ H Q=>Q [] H
def aa5(ta:TE)(tr:TA):TA:=fun σ H Q=>ta σ H fun x H1=>tr σ H1 fun xs H2=>Q (x::xs) H2
section
variable {X:Cx} {e:de} {es:List de} {te:TE} {t:TA} {pos:sY}
theorem ay:PA X [] VR:=fun _ _ _ _ H Q I h=>Dh ⟨[],H,I,.nil,h⟩
theorem af(ha:PE X e te)(hr:PA X es t)(hs:starEach (e::es) X.env=(false,eval e X.env)::starEach es X.env:=by rfl):PA X (e::es) (aa5 te t):=by
 intro pos pins s σ H Q I h;rw[hs];show wpAny _ _ (spliced ((false,eval e X.env)::backTo pos (starEach es X.env))) _ _ s;refine mF (iW (ha pins s σ H _ I h) fun u s1 ⟨x,H1,I1,r1,q1⟩=>?_);exact iW (hr pos pins s1 σ H1 _ I1 q1) fun us s2 ⟨xs,H2,I2,r2,q2⟩=>⟨x::xs,H2,I2,.cons r1 r2,q2⟩
def aeC(t:TA):TE:=fun σ H Q=>t σ H fun xs H1=>xs.length<=sizeLine/\∀p,H1 p=none->Q (.ref p) (upd H1 p (.tup xs))
def aeJ(t:TA):TE:=fun σ H Q=>t σ H fun xs H1=>xs.length<=sizeLine/\∀p,H1 p=none->Q (.ref p) (upd H1 p (.lst xs))
theorem acB{x1}(h:PA X es t):PE X (.Tuple es x1 pos) (aeC t):=by
 intro pins s σ H Q I hq;refine wpAny_Tuple_spliced (iW (h pos pins s σ H _ I hq) fun us s1 ⟨xs,H1,I1,r,z,q⟩=>⟨by rw[<-r.length];exact z,?_⟩);have hf:H1 s1.heap.objs.size=none:=I1.gR.fresh (ao _);refine⟨.ref s1.heap.objs.size,upd H1 s1.heap.objs.size (.tup xs),I1.laid (t':=s1.toks) (fun b u e=>Heap.get?_push_of_some _ e) (ao _) ?_,rfl,q _ hf⟩;exact⟨z,us,r,⟨_,Heap.get?_push_size _ rfl,rfl,_,rfl⟩⟩
theorem fg(h:PA X es t):PE X (.List es pos) (aeJ t):=by
 intro pins s σ H Q I hq;refine wpAny_List_spliced (iW (h pos pins s σ H _ I hq) fun us s1 ⟨xs,H1,I1,r,z,q⟩=>⟨by rw[<-r.length];exact z,?_⟩);have hf:H1 s1.heap.objs.size=none:=I1.gR.fresh (ao _);refine⟨.ref s1.heap.objs.size,upd H1 s1.heap.objs.size (.lst xs),I1.laid (t':=s1.toks) (fun b u e=>Heap.get?_push_of_some _ e) (ao _) ?_,rfl,q _ hf⟩;exact⟨z,us,0,r,Heap.get?_push_size _ rfl⟩
end
abbrev Sp:=List V->Hp->VK->XK->Prop
abbrev SN:=List OG->Hp->au->XK->aj->au->Prop
structure QP(P:bw)(w:bQ)(K:aq)(mg:Str->Option aj)(base:Heap)(A:cR)(outer:List OG)(s:au)(H:Hp):Prop where
 frames:A.frames=some outer
 mod:Mod K mg base
 bs:∀b o,base.get? b=some o->s.heap.get? b=some o/\H b=none
 bsz:base.objs.size<=s.heap.objs.size
 EI:s.heap.FunFrames base outer
 frf:∀b∈XQ outer,H b=none
 gR:yd P w H s.heap
 bare:Ir s.gens
def CE(outer:List OG)(P:bw)(w:bQ)(H:Hp)(s:au)(Q:VK)(u:aj)(s':au):Prop:=E2 fun v H'=>A6 (s'.os=s.os) (Ir s'.gens) (Un (XQ outer) [] H H' s.heap s'.heap) (yd P w H' s'.heap) (RelV v u) (Q v H')
def CR(CX:SN)(outer:List OG)(P:bw)(w:bQ)(H:Hp)(s:au)(Q:VK)(E:XK)(r:Result)(s':au):Prop:=
 match r with
 |.ok (.ret u)=>CE outer P w H s Q u s'
 |.ok _=>False
 |.error e=>CX outer H s E e s'
structure cF(P:bw)(w:bQ)(K:aq)(mg:Str->Option aj)(base:Heap)(CX:SN)(k:Nat)(f:Addr)(fd:FuncData)(ps:List Str)(sp:Sp):Prop where
 len:∀vs H Q E,sp vs H Q E->vs.length=ps.length
 run:∀(A:cR) (outer:List OG) (s:au) (H:Hp) (args:Args) (us:List aj) (vs:List V) (Q:VK) (E:XK),nE k A->QP P w K mg base A outer s H->OS s fd args (ps.zip us)->cZ vs us->sp vs H Q E->
  codeAny (model P w) A (.call (.ref f) args) (CR CX outer P w H s Q E) s
theorem cF.mono{P:bw}{w:bQ}{K:aq}{mg:Str->Option aj}{base:Heap}{CX:SN}{j k:Nat}{f:Addr}{fd:FuncData}{ps:List Str}{sp:Sp}(F:cF P w K mg base CX j f fd ps sp)(h:j<=k):
  cF P w K mg base CX k f fd ps sp:=⟨F.len,fun A outer s H args us vs Q E hr=>F.run A outer s H args us vs Q E (hr.mono h)⟩
theorem cF.imp{P:bw}{w:bQ}{K:aq}{mg:Str->Option aj}{base:Heap}{CX:SN}{k:Nat}{f:Addr}{fd:FuncData}{ps:List Str}{sp sp':Sp}(F:cF P w K mg base CX k f fd ps sp)
  (h:∀vs H Q E,sp' vs H Q E->sp vs H Q E):cF P w K mg base CX k f fd ps sp':=
 ⟨fun vs H Q E q=>F.len vs H Q E (h _ _ _ _ q),fun A outer s H args us vs Q E hr he hb hv hs=>F.run A outer s H args us vs Q E hr he hb hv (h _ _ _ _ hs)⟩
theorem QP.make{P:bw}{w:bQ}{K:aq}{mg:Str->Option aj}{base:Heap}{A:cR}{outer:List OG}{s:au}{H:Hp}(e:QP P w K mg base A outer s H)(C:Addr)(us:List aj)(kw:List (Str×aj)):
  QP P w K mg base (A.under (.builtin "type.__call__" ⟨.ref C::us,kw⟩)) outer s H:=⟨by first|exact e.frames|(simpa [L8,Code.envs,OR,pushEnvs]using e.frames),e.mod,e.bs,e.bsz,e.EI,e.frf,e.gR,e.bare⟩
section
variable {X:Cx} {pins:List (Addr×Obj)} {σ:St} {H:Hp} {s s':au}
theorem Inv.agk(I:Inv X pins σ H s):QP X.prog X.w X.K X.mg X.base X.A X.stack s H:=
 ⟨I.ok.frames,I.ok.mod,I.bs,bN I.ok.bsz I.sz,I.stack,I.Q8,I.gR,I.bare⟩
theorem Inv.after{Q:VK}{u:aj}(I:Inv X pins σ H s)(h:CE X.stack X.prog X.w H s Q u s'):EP X pins σ Q u s':=by
 obtain⟨v,H',os,bare,un,gR,r,q⟩:=h;obtain⟨hh,g,d,t,os'⟩:=s';obtain rfl:os'=s.os:=os;exact⟨v,H',I.call (h':=hh) (g':=g) (d':=d) (t':=t) (ch:=[]) un gR bare (fun b z=>absurd z (by simp)),r,q⟩
end
def VX(sp:Sp)(EK:List V)(E:XK)(t:TA):TE:=fun σ H Q=>t σ H fun vs H1=>sp (vs++EK) H1 Q E
def VS(C:Addr)(m:Str)(sp:Sp)(EK:List V)(E:XK)(ta:TE)(t:TA):TE:=fun σ H Q=>ta σ H fun x H1=>E3 fun a dx fs=>A4 (x=.ref a) (H1 a=some (.ins C dx fs)) (fs.lookup m=none) (t σ H1 fun vs H2=>sp (x::(vs++EK)) H2 Q E)
def VT(C:Addr)(sp:Sp)(EK:List V)(E:XK)(t:TA):TE:=fun σ H Q=>t σ H fun vs H1=>∀x dx,H1 x=none->H1 dx=none->dx≠x->
 sp (.ref x::(vs++EK)) (upd (upd H1 dx (.own x)) x (.ins C dx [])) (fun v H2=>v=.lC/\Q (.ref x) H2) E
def Binds(K:aq)(fd:FuncData)(ps:List Str)(ds:List aj):Prop:=
 ∀(s:au) (us:List aj),K.In s.heap->(us++ds).length=ps.length->OS s fd ⟨us,[]⟩ (ps.zip (us++ds))
theorem Binds.all{K:aq}{fd:FuncData}{ps:List Str}(h:∀us:List aj,us.length=ps.length->bindArgs fd ⟨us,[]⟩=pure (ps.zip us)):Binds K fd ps []:=fun s us _ hl=>by
 rw[cV]at hl⊢;exact .of_eq (h us hl)
def vj(CX:SN)(X:Cx)(E:XK):Prop:=∀(pins:List (Addr×Obj)) (σ:St) (H:Hp) (s:au) (e:aj) (s':au),Inv X pins σ H s->CX X.stack H s E e s'->X.xe e s'
section
variable {X:Cx} {CX:SN} {k:Nat} {f C:Addr} {fd:FuncData} {ps:List Str} {sp:Sp} {EK:List V} {ds:List aj} {E:XK} {x m:Str} {p pos apos:sY} {e o:de} {es:List de} {ta:TE} {t:TA}
theorem Gi{pins:List (Addr×Obj)}{σ:St}{H:Hp}{s:au}{Q:VK}{us:List aj}{vs:List V}(F:cF X.prog X.w X.K X.mg X.base CX k f fd ps sp)(hr:nE k X.A)(hb:Binds X.K fd ps ds)(hd:cZ EK ds)(hx:vj CX X E)
  (I:Inv X pins σ H s)(r:cZ vs us)(h:sp (vs++EK) H Q E):wpAny (model X.prog X.w) X.A (call (.ref f) us) (EP X pins σ Q) X.xe s:=by
 have r2:cZ (vs++EK) (us++ds):=r.append hd;have hl:(us++ds).length=ps.length:=by rw[<-r2.length];exact F.len _ _ _ _ h
 refine QS (mE (F.run X.A X.stack s H ⟨us,[]⟩ (us++ds) (vs++EK) Q E hr I.agk (hb s us I.Nr hl) r2 h) fun r s' hq=>?_);cases r with
 |error e=>exact hx pins σ H s e s' I hq
 |ok fl=>
  cases fl with
  |ret u=>exact I.after hq
  |next=>exact fU hq
  |brk=>exact fU hq
  |cont=>exact fU hq
theorem bF(F:cF X.prog X.w X.K X.mg X.base CX k f fd ps sp)(hr:nE k X.A)(hg:Gl X x)(hm:X.mg x=some (.ref f))(hk:eV X.K (.ref f)=true)(hb:Binds X.K fd ps ds)(hd:cZ EK ds)(hx:vj CX X E)
  (ha:PA X (e::es) t)(XA:(x==("__debug__" :Str))=false:=by decide)(he:starEach (e::es) X.env=(false,eval e X.env)::starEach es X.env:=by rfl)(tQ:(backTo pos (starEach es X.env)).any (·.1)=false:=by rfl):
  PE X (.Call (.Name x p) (e::es) [] pos) (VX sp EK E t):=by
 intro pins s σ H Q I h;refine ig (Bm I hg hm ?_ XA);refine rG (h₀:=X.base) I.ok.mod.kin hk (iW (ha pos pins s σ H _ I h) fun us s1 ⟨vs,H1,I1,r,q⟩=>⟨I1.Nr,?_⟩) he tQ;exact Gi F hr hb hd hx I1 r q
theorem WL(F:cF X.prog X.w X.K X.mg X.base CX k f fd ps sp)(hr:nE k X.A)(hg:Gl X x)(hm:X.mg x=some (.ref f))(hk:eV X.K (.ref f)=true)(hb:Binds X.K fd ps ds)(hd:cZ EK ds)(hx:vj CX X E)
  (XA:(x==("__debug__" :Str))=false:=by decide):PE X (.Call (.Name x p) [] [] pos) (VX sp EK E VR):=by
 intro pins s σ H Q I h;refine ig (Bm I hg hm ?_ XA);exact yX I.Nr hk (Gi (us:=[]) F hr hb hd hx I .nil h)
theorem gg{pl:Sem Bool}(he:PE X o ta)(c:HD X.K C)(hm:aaU X.K C m f)(F:cF X.prog X.w X.K X.mg X.base CX k f fd ps sp)(hr:nE k X.A)(hb:Binds X.K fd ps ds)(hd:cZ EK ds)(hx:vj CX X E)(ha:PA X (e::es) t)
  (Nw:starEach (e::es) X.env=(false,eval e X.env)::starEach es X.env:=by rfl)(tQ:(backTo pos (starEach es X.env)).any (·.1)=false:=by rfl)
  (ht:eval (.Call (.Attribute o m apos) (e::es) [] pos) X.env=(do
   let ov<-eval o X.env
   standAt apos.atName
   let (f,first)<-holding [ov] (getMethod ov m pl)
   callWith pos f first (backTo pos (starEach (e::es) X.env)) (backToKw pos (keywordEach [] X.env))):=by rfl):
  PE X (.Call (.Attribute o m apos) (e::es) [] pos) (VS C m sp EK E ta t):=by
 intro pins s σ H Q I h;refine LZ (pl:=pl) (iW (he pins s σ H _ I h) fun u s1 ⟨x,H1,I1,rx,a,dx,fs,ex,ea,l,q⟩=>?_) ht;subst ex;obtain rfl:u=eQ a:=rx;refine Ha I1 ea c hm l ?_;refine rG (first:=[.ref a]) (h₀:=X.base) I.ok.mod.kin hm.kp (iW (ha pos pins s1 σ H1 _ I1 q) fun us s2 ⟨vs,H2,I2,r,q2⟩=>⟨I2.Nr,?_⟩) Nw tQ;exact Gi (us:=.ref a::us) (vs:=.ref a::vs) F hr hb hd hx I2 (.cons rfl r) q2
theorem gf{pl:Sem Bool}(he:PE X o ta)(c:HD X.K C)(hm:aaU X.K C m f)(F:cF X.prog X.w X.K X.mg X.base CX k f fd ps sp)(hr:nE k X.A)(hb:Binds X.K fd ps ds)(hd:cZ EK ds)(hx:vj CX X E)
  (ht:eval (.Call (.Attribute o m apos) [] [] pos) X.env=(do
   let ov<-eval o X.env
   standAt apos.atName
   let (f,first)<-holding [ov] (getMethod ov m pl)
   callWith pos f first (backTo pos (starEach [] X.env)) (backToKw pos (keywordEach [] X.env))):=by rfl):
  PE X (.Call (.Attribute o m apos) [] [] pos) (VS C m sp EK E ta VR):=by
 intro pins s σ H Q I h;refine LZ (pl:=pl) (iW (he pins s σ H _ I h) fun u s1 ⟨x,H1,I1,rx,a,dx,fs,ex,ea,l,q⟩=>?_) ht;subst ex;obtain rfl:u=eQ a:=rx;refine Ha I1 ea c hm l ?_;exact yX (first:=[.ref a]) I1.Nr hm.kp (Gi (us:=[.ref a]) (vs:=[.ref a]) F hr hb hd hx I1 (.cons rfl .nil) q)
structure Mk(K:aq)(C f:Addr):Prop where
 makes:ET K C=true
 init:eW K (.ref C) "__init__" =some (some (.ref f))
 fn:vn K (.ref f)=true
 kp:eV K (.ref C)=true
theorem MJ{pins:List (Addr×Obj)}{σ:St}{H:Hp}{s:au}{Q:VK}{us:List aj}{vs:List V}(M:Mk X.K C f)(F:cF X.prog X.w X.K X.mg X.base CX k f fd ps sp)(hr:nE (k+1) X.A)(hb:Binds X.K fd ps ds)(hd:cZ EK ds)
  (hx:vj CX X E)(I:Inv X pins σ H s)(r:cZ vs us)
  (h:∀x dx,H x=none->H dx=none->dx≠x->sp (.ref x::(vs++EK)) (upd (upd H dx (.own x)) x (.ins C dx [])) (fun v H2=>v=.lC/\Q (.ref x) H2) E):
  wpAny (model X.prog X.w) X.A (call (.ref C) us) (EP X pins σ Q) X.xe s:=by
 have hq:=h (s.heap.objs.size+1) s.heap.objs.size (I.gR.fresh (iV _)) (I.gR.fresh (ao _)) (bE (v7 _));have I2:=Inv.made (C:=C) I;have r2:cZ (V.ref (s.heap.objs.size+1)::(vs++EK)) (eQ (s.heap.objs.size+1)::(us++ds)):=.cons rfl (r.append hd);have hl:(eQ (s.heap.objs.size+1)::us++ds).length=ps.length:=by
  have e:=r2.length;rw[F.len _ _ _ _ hq]at e;exact e.symm
 refine QS (Xc (f:=f) I.Nr M.makes M.init (beq_iff_eq.mp M.fn) (mE (F.run _ X.stack _ _ ⟨eQ (s.heap.objs.size+1)::us,[]⟩ (eQ (s.heap.objs.size+1)::(us++ds)) _ _ E (hr.make C us [])
  (I2.agk.make C us []) (hb _ (eQ (s.heap.objs.size+1)::us) I2.Nr hl) r2 hq) fun r s' lU=>?_))
 cases r with
 |error e=>exact hx pins σ _ _ e s' I2 lU
 |ok fl=>
  cases fl with
  |ret u=>
   obtain⟨v,H',I3,rv,ev,q3⟩:=I2.after lU;subst ev;exact⟨rv,⟨V.ref (s.heap.objs.size+1),H',I3,rfl,q3⟩⟩
  |next=>exact fU lU
  |brk=>exact fU lU
  |cont=>exact fU lU
theorem lT(M:Mk X.K C f)(F:cF X.prog X.w X.K X.mg X.base CX k f fd ps sp)(hr:nE (k+1) X.A)(hg:Gl X x)(hm:X.mg x=some (.ref C))(hb:Binds X.K fd ps ds)(hd:cZ EK ds)(hx:vj CX X E)
  (ha:PA X (e::es) t)(XA:(x==("__debug__" :Str))=false:=by decide)(he:starEach (e::es) X.env=(false,eval e X.env)::starEach es X.env:=by rfl)(tQ:(backTo pos (starEach es X.env)).any (·.1)=false:=by rfl):
  PE X (.Call (.Name x p) (e::es) [] pos) (VT C sp EK E t):=by
 intro pins s σ H Q I h;refine ig (Bm I hg hm ?_ XA);refine rG (h₀:=X.base) I.ok.mod.kin M.kp (iW (ha pos pins s σ H _ I h) fun us s1 ⟨vs,H1,I1,r,q⟩=>⟨I1.Nr,?_⟩) he tQ;exact MJ M F hr hb hd hx I1 r q
theorem MX(M:Mk X.K C f)(F:cF X.prog X.w X.K X.mg X.base CX k f fd ps sp)(hr:nE (k+1) X.A)(hg:Gl X x)(hm:X.mg x=some (.ref C))(hb:Binds X.K fd ps ds)(hd:cZ EK ds)(hx:vj CX X E)
  (XA:(x==("__debug__" :Str))=false:=by decide):PE X (.Call (.Name x p) [] [] pos) (VT C sp EK E VR):=by
 intro pins s σ H Q I h;refine ig (Bm I hg hm ?_ XA);exact yX I.Nr M.kp (MJ (us:=[]) M F hr hb hd hx I .nil h)
end
section
variable {X:Cx} {CX:SN} {k:Nat} {f C:Addr} {fd:FuncData} {ps ks:List Str} {sp:Sp} {E:XK} {x m:Str} {p pos apos ama:sY} {e o:de} {es:List de} {kws:List Ej} {te ta:TE} {t tk:TA} {nm:Option Str}
variable {g:List aj->List aj->List aj} {gV:List V->List V->List V}
end
structure a8(N P:List Str)(sc:Scope):Prop where
 kind:sc.kind=.function
 co:sc.isCoroutine=false
 gen:sc.isGenerator=false
 nd:N.Nodup
 pre:N.take P.length=P
 par:∀x∈P,sc.names.lookup x=some .local\/sc.names.lookup x=some .cell
 acN:∀y∈sc.names,y.2≠ .free
theorem JG{kindOf:Str->Option jB}{x:Str}:∀ {binds:List (Str×aj)} {m:Str->Option aj},(∀v,(x,v)∉binds)->bindL kindOf binds m x=m x
 |[],_,_=>rfl
 |(n,v)::r,m,h=>by
  unfold bindL;rw[JG fun w hw=>h w (aA _ hw)];split
  ·have:x≠n:=by rintro rfl;exact h v ah
   simp[this]
  ·rfl
theorem JI{kindOf:Str->Option jB}{x:Str}:∀ {binds:List (Str×aj)} {m:Str->Option aj},(∀v,(x,v)∉binds)->bindC kindOf binds m x=m x
 |[],_,_=>rfl
 |(n,v)::r,m,h=>by
  unfold bindC;rw[JI fun w hw=>h w (aA _ hw)];split
  ·rfl
  ·have:x≠n:=by rintro rfl;exact h v ah
   simp[this]
theorem JH{kindOf:Str->Option jB}{x:Str}{v:aj}:∀ {P:List Str} {vs:List aj} {i:Nat} {m:Str->Option aj},P.Nodup->P[i]? =some x->vs[i]? =some v->kindOf x=some .local->
  bindL kindOf (P.zip vs) m x=some v
 |[],_,_,_,_,h,_,_=>by simp at h
 |_::_,[],_,_,_,_,h,_=>by simp at h
 |p::P,w::vs,0,m,nd,h1,h2,hk=>by
  simp at h1 h2;subst h1;subst h2;show bindL kindOf ((p,w)::P.zip vs) m p=_;unfold bindL;rw[JG fun v hv=>(cB.mp nd).1 (HQ hv).1,if_pos hk];simp
 |p::P,w::vs,i+1,m,nd,h1,h2,hk=>by
  show bindL kindOf ((p,w)::P.zip vs) m x=_;unfold bindL;exact JH (i:=i) (cB.mp nd).2 (by simpa using h1) (by simpa using h2) hk
theorem JJ{kindOf:Str->Option jB}{x:Str}{v:aj}:∀ {P:List Str} {vs:List aj} {i:Nat} {m:Str->Option aj},P.Nodup->P[i]? =some x->vs[i]? =some v->kindOf x≠some .local->
  bindC kindOf (P.zip vs) m x=some v
 |[],_,_,_,_,h,_,_=>by simp at h
 |_::_,[],_,_,_,_,h,_=>by simp at h
 |p::P,w::vs,0,m,nd,h1,h2,hk=>by
  simp at h1 h2;subst h1;subst h2;show bindC kindOf ((p,w)::P.zip vs) m p=_;unfold bindC;rw[JI fun v hv=>(cB.mp nd).1 (HQ hv).1,if_neg hk];simp
 |p::P,w::vs,i+1,m,nd,h1,h2,hk=>by
  show bindC kindOf ((p,w)::P.zip vs) m x=_;unfold bindC;exact JJ (i:=i) (cB.mp nd).2 (by simpa using h1) (by simpa using h2) hk
def start(N:List Str)(vs:List V):St:=vs.map some++aO (N.length-vs.length) none
def UP(CX:SN)(P:bw)(w:bQ)(K:aq)(mg:Str->Option aj)(base:Heap)(N:List Str)(qual:Str)(scope:Scope)(f:Addr)(cd:aj)(A:cR)(outer:List OG)(s:au)(H:Hp)(E:XK):Cx where
 prog:=P
 w:=w
 K:=K
 mg:=mg
 base:=base
 A:=A.deeper (envOfC qual scope s.heap.objs.size f cd)
 N:=N
 II:=s
 H_0:=H
 env:=envOfC qual scope s.heap.objs.size f cd
 outer:=outer
 stack:=envOfC qual scope s.heap.objs.size f cd::outer
 ex:=[]
 calm:=true
 fn:=fun _=>true
 pn:=[]
 xe:=fun e s'=>wpAny (model P w) (A.deeper (envOfC qual scope s.heap.objs.size f cd)) (leaving (envOfC qual scope s.heap.objs.size f cd) e) (fun _ s''=>CX outer H s E e s'') (fun e' s''=>CX outer H s E e' s'') s'
theorem Oc{sc:Scope}{n:Nat}{x:Str}(h:sc.names.lookup x=some .cell):∃c,(cellsFrom n sc.names []).lookup x=some c:=by
 have q:=LI sc.names n [] (.inl h);exact Option.isSome_iff_exists.mp q
theorem Ut{CX:SN}{P:bw}{w:bQ}{K:aq}{mg:Str->Option aj}{base:Heap}{N ps:List Str}{qual:Str}{scope:Scope}{f:Addr}{cd:aj}{A:cR}{outer:List OG}{s s1:au}{H:Hp}{E:XK}{us:List aj}{vs:List V}
  (S:a8 N ps scope)(hd:A.handled=none)(e0:QP P w K mg base A outer s H)(hl:vs.length=ps.length)(r:cZ vs us)
  (x:InCallC s s.heap.objs.size (bindL (envOfC qual scope s.heap.objs.size f cd).kindOf (ps.zip us) fun _=>none) (cellsFrom (s.heap.objs.size+1) scope.names []) (bindC (envOfC qual scope s.heap.objs.size f cd).kindOf (ps.zip us) fun _=>none) s1):
  Inv (UP CX P w K mg base N qual scope f cd A outer s H E) [] (start N vs) H s1:=by
 have tQ:ps.length<=N.length:=by have:=congrArg nL S.pre;rw[bt]at this;omega
 obtain⟨h1,tk,rfl,hk⟩:=x.done;have noA:∀b:Addr,b∉(UP CX P w K mg base N qual scope f cd A outer s H E).ex:=fun b z=>absurd (show b∈([]:List Addr)from z) (by simp)
 refine⟨⟨e0.mod,S.kind,rfl,rfl,ao _,fun y z c h1 h2=>?_,fun y hy=>?_,fun y c _ h=>?_,fun _=>hd,Around.frames_deeper e0.frames,.inr ⟨rfl,rfl⟩,fun b z=>absurd z (noA b),e0.bs,e0.bsz,fun b _ _=>noA b,fun b z=>absurd z (noA b),e0.EI,e0.frf⟩,
  rfl,e0.bare,Un.kept hk,⟨_,x.toInCall.ns,fun i y v h1 h2 h3=>?_⟩,fun y c h=>⟨_,x.cell y c h⟩,e0.gR.fresh (ao _),fun y c h=>?_,fun p hp=>absurd (show p∈([]:List (Addr×Obj))from hp) (by simp),e0.gR.kept hk,?_⟩
 ·exact name_of_addr x.apart (cu h1) (cu h2)
 ·have hy:scope.names.lookup y=some .cell\/scope.names.lookup y=some .free:=hy;rcases hy with hy|hy
  ·exact Oc hy
  ·exact absurd rfl (S.acN _ (cu hy))
 ·exact rO (x.above y c (cu h))
 ·have hi:i<vs.length:=by
   unfold start at h2;by_cases hi:i<vs.length
   ·exact hi
   ·rw[bY (by simpa using hi)]at h2;rw[nM]at h2;split at h2<;>cases h2
  have ha:vs[i]? =some v:=by
   unfold start at h2;rw[cG (by simpa using hi),cI]at h2;cases e:vs[i]? with
   |none=>rw[e]at h2;cases h2
   |some a=>rw[e]at h2;cases h2;rfl
  obtain⟨u,hu,rv⟩:=r.get ha;have hp:ps[i]? =some y:=by
   rw[<-S.pre,List.getElem?_take_of_lt (by omega)];exact h1
  have ndP:ps.Nodup:=by rw[<-S.pre];exact S.nd.sublist (YJ _ _)
  refine⟨u,rv,?_⟩;rcases S.par y (bC hp)with k|k
  ·exact .inl ⟨k,JH ndP hp hu k⟩
  ·obtain⟨c,e⟩:=Oc (n:=s.heap.objs.size+1) k;refine .inr ⟨.inl k,c,e,?_⟩;have q:=x.cell y c e;rw[JJ ndP hp hu (by show scope.names.lookup y≠_;rw[k];decide)]at q;exact q
 ·exact e0.gR.fresh (rO (x.above y c (cu h)))
 ·unfold start;show _=N.length;rw[ai,ae,dS];omega
theorem agi{CX:SN}{P:bw}{w:bQ}{K:aq}{mg:Str->Option aj}{base:Heap}{k:Nat}{f:Addr}{name qual:Str}{params:Arguments}{body:List Stmt}{scope:Scope}{dV kV doc pm EL ct oc:aj}{an od:Option Addr}
  {osl:Array (Option aj)}{N ps:List Str}{sp:Sp}(lk:K.lookup f=some ⟨oc,od,.func (lp name qual params body scope dV kV doc pm an EL ct),osl⟩)(UA:nH K EL qual=true)(S:a8 N ps scope)
  (len:∀vs H Q E,sp vs H Q E->vs.length=ps.length)
  (XB:∀(A:cR) (outer:List OG) (s:au) (H:Hp) (vs:List V) (Q:VK) (E:XK),nE k (A.deeper (envOfC qual scope s.heap.objs.size f EL))->sp vs H Q E->
   ∃t,U7 (UP CX P w K mg base N qual scope f EL A outer s H E) body t/\t {nx:=fun _ H'=>Q .lC H',rt:=Q} (start N vs) H):
  cF P w K mg base CX (k+1) f (lp name qual params body scope dV kV doc pm an EL ct) ps sp:=by
 refine⟨len,fun A outer s H args us vs Q E hr e0 hb r Sb=>?_⟩;have hl:=len _ _ _ _ Sb;have KX:K.In s.heap:=e0.mod.kin.keeps fun b o e=>(e0.bs b o e).1
 have lim:s.heap.NoLimit:=e0.mod.nolimit.keeps fun b o e=>(e0.bs b o e).1
 have afJ:∀y∈ps.zip us,scope.names.lookup y.1=some .local\/(scope.names.lookup y.1=some .cell/\((cellsFrom (s.heap.objs.size+1) scope.names []).lookup y.1).isSome=true):=fun⟨n,v⟩ hy=>by
  rcases S.par n (HQ hy).1 with q|q
  ·exact .inl q
  ·exact .inr ⟨q,LI _ _ _ (.inl q)⟩
 refine codeAny_call_function hr.depth (KX _ _ lk) rfl S.co S.gen rfl (PySem.W.codeRec_of KX UA) (hb _ _ _ _ ?_);refine wpAny_newFunctionEnv_cells S.kind afJ fun env he s1 x=>?_
 subst he;refine⟨lim.keeps x.toInCall.keep,codeAny_func ?_⟩;obtain⟨t,ht,hq⟩:=XB A outer s H vs Q E (hr.deeper _) Sb;have I:Inv (UP CX P w K mg base N qual scope f EL A outer s H E) [] (start N vs) H s1:=Ut S hr.hd e0 hl r x;refine jV (ht [] s1 (start N vs) H _ I hq) (fun fl s' hs=>?_) fun e s' hs=>hs
 have fin:∀ {σ':St} {H':Hp} {v:V} {u:aj},Inv (UP CX P w K mg base N qual scope f EL A outer s H E) [] σ' H' s'->RelV v u->Q v H'->CE outer P w H s Q u s':=
  fun{σ' H' v u} J rv q=>⟨v,H',J.os,J.bare,J.base,J.gR,rv,q⟩
 cases fl with
 |ret u=>
  obtain⟨v,σ',H',J,rv,q⟩:=hs;exact fin J rv q
 |next=>
  obtain⟨σ',H',J,q⟩:=hs;exact fin (v:=V.lC) (u:=vX) J rfl q
 |brk=>
  obtain⟨_,_,_,q⟩:=hs;exact fU q
 |cont=>
  obtain⟨_,_,_,q⟩:=hs;exact fU q
section
variable {X:Cx} {x:Str} {p pos:sY} {e:de} {es:List de} {t:TA} {id T:String} {r:List V->Hp->VK->Prop}
def tCB(r:List V->Hp->VK->Prop)(t:TA):TE:=fun σ H Q=>t σ H fun vs H1=>r vs H1 Q
theorem bH(hc:pZ X (.builtin id) r)(hg:Gl X x)(hm:X.mg x=none)(hv:bootBuiltins x=some (.builtin id))(ha:PA X (e::es) t)(hn:x≠ "__name__" :=by decide)(XA:(x==("__debug__" :Str))=false:=by decide)
  (he:starEach (e::es) X.env=(false,eval e X.env)::starEach es X.env:=by rfl)(tQ:(backTo pos (starEach es X.env)).any (·.1)=false:=by rfl):PE X (.Call (.Name x p) (e::es) [] pos) (tCB r t):=by
 intro pins s σ H Q I h;refine ig (Ah I hg hm hv ?_ hn XA);exact PyProof.Rows.callWith_builtin1 (iW (ha pos pins s σ H _ I h) fun us s1 ⟨vs,H1,I1,r1,q1⟩=>hc pins s1 σ H1 vs us Q I1 r1 q1) he tQ
theorem kY(hc:pZ X (.type T) r)(hg:Gl X x)(hm:X.mg x=none)(hv:bootBuiltins x=some (.type T))(ha:PA X (e::es) t)(hn:x≠ "__name__" :=by decide)(XA:(x==("__debug__" :Str))=false:=by decide)
  (he:starEach (e::es) X.env=(false,eval e X.env)::starEach es X.env:=by rfl)(tQ:(backTo pos (starEach es X.env)).any (·.1)=false:=by rfl):PE X (.Call (.Name x p) (e::es) [] pos) (tCB r t):=by
 intro pins s σ H Q I h;refine ig (Ah I hg hm hv ?_ hn XA);exact hW (iW (ha pos pins s σ H _ I h) fun us s1 ⟨vs,H1,I1,r1,q1⟩=>hc pins s1 σ H1 vs us Q I1 r1 q1) he tQ
end
end L2
namespace HT
open PySem PyProof.Rows
section
open PySem.SeqAt
open PySem.AutoSeq1 (wpAny_loadPart')
open PySem.MeetsSeq PySem.MeetsSeq2 PySem.MeetsSeq3
end
section
variable {prog:bw} {w:bQ} {A:cR} {E:aj->au->Prop} {s:au}
def HK(n d:Nat):Option Int->Nat
 |none=>d
 |some v=>if v<0 then(v+(n:Int)).toNat else min v.toNat n
theorem Fd(n d k:Nat):HK n d (some (k:Int))=min k n:=by
 show(if (k:Int)<0 then((k:Int)+(n:Int)).toNat else min (k:Int).toNat n)=min k n;rw[if_neg (by omega),bB]
end
end HT
namespace L2
open PySem PySem.Spec PyProof.Rows
abbrev TO:=St->Hp->(Option Int->Hp->Prop)->Prop
def PO(X:Cx)(e:Option de)(t:TO):Prop:=∀(pins:List (Addr×Obj)) (s:au) (σ:St) (H:Hp) (Q:Option Int->Hp->Prop),Inv X pins σ H s->t σ H Q->wpAny (model X.prog X.w) X.A (evalPart e X.env) (fun u s'=>∃o H',Inv X pins σ H' s'/\IsPart u o/\Q o H') X.xe s
def Q7:TO:=fun _ H Q=>Q none H
def aa1(t:TE):TO:=fun σ H Q=>t σ H fun x H1=>∃i,x=.int i/\Q (some i) H1
section
variable {X:Cx} {e:de} {te:TE} {lo hi:Option de} {tl th:TO} {pos p2:sY}
theorem sg:PO X none Q7:=by
 intro pins s σ H Q I h;rw[evalPart_none];exact aD ⟨none,H,I,.none,h⟩
theorem iS(h:PE X e te):PO X (some e) (aa1 te):=by
 intro pins s σ H Q I hw;rw[evalPart_some];refine iW (h pins s σ H _ I hw) fun u s1 ⟨x,H1,I1,r1,q1⟩=>?_
 obtain⟨i,rfl,q⟩:=q1;obtain⟨t,rfl⟩:=r1;exact⟨some i,H1,I1,.int i t,q⟩
def SlR(X:Cx)(r:V->Option Int->Option Int->Hp->VK->Prop):Prop:=∀(pins:List (Addr×Obj)) (s:au) (σ:St) (H:Hp) (x:V) (v vl vu:aj) (lo hi:Option Int) (sl:Addr) (Q:VK),Inv X pins σ H s->RelV x v->s.heap.IsSliceOf sl vl vu .none->IsPart vl lo->IsPart vu hi->r x lo hi H Q->E2 fun T id=>A3 (typeLookup (.type T) "__getitem__" =pure (some (.builtin id))) (s.TypeIs v T) (wpAny (model X.prog X.w) X.A (getItem v (.ref sl)) (EP X pins σ Q) X.xe s)
def tSl(r:V->Option Int->Option Int->Hp->VK->Prop)(te:TE)(tl th:TO):TE:=fun σ H Q=>te σ H fun x H1=>tl σ H1 fun l H2=>th σ H2 fun u H3=>r x l u H3 Q
theorem qQ{r:V->Option Int->Option Int->Hp->VK->Prop}(hr:SlR X r)(he:PE X e te)(hl:PO X lo tl)(hu:PO X hi th):PE X (.Subscript e (.Slice lo hi none p2) pos) (tSl r te tl th):=by
 intro pins s σ H Q I h;refine Subscript_ (iW (he pins s σ H _ I h) fun v s1 ⟨x,H1,I1,r1,q1⟩=>?_);refine wpAny_Slice (iW (hl pins s1 σ H1 _ I1 q1) fun vl s2 ⟨l,H2,I2,pl,q2⟩=>iW (hu pins s2 σ H2 _ I2 q2) fun vu s3 ⟨u,H3,I3,pu,q3⟩=>?_);rw[evalPart_none];refine aD ?_;have I4:Inv X pins σ H3 {s3 with heap:=s3.heap.push {cls:=.type "slice",data:=.fields #[vl,vu,.none]}}:=I3.kept (t':=s3.toks) fun b ob q=>Heap.get?_push_of_some _ q
 obtain⟨T,id,hT,ht,hg⟩:=hr pins {s3 with heap:=s3.heap.push {cls:=.type "slice",data:=.fields #[vl,vu,.none]}} σ H3 x v vl vu l u s3.heap.objs.size Q I4 r1 (Heap.IsSliceOf.new ..) pl pu q3;show wpAny (model X.prog X.w) X.A (subscriptTail e (.Slice lo hi none p2) v (.ref s3.heap.objs.size)) (EP X pins σ Q) X.xe {s3 with heap:=s3.heap.push {cls:=.type "slice",data:=.fields #[vl,vu,.none]}};exact tail_any (ops:=[.ref s3.heap.objs.size,v]) ht hT hg (by with_unfolding_all rfl)
def qt(xs:List V)(lo hi:Option Int):List V:=(xs.drop (HT.HK xs.length 0 lo)).take (HT.HK xs.length xs.length hi-HT.HK xs.length 0 lo)
theorem N5(xs:List V)(lo hi:Option Int):(qt xs lo hi).length<=xs.length:=by
 unfold qt;rw[bt,jI];omega
end
def YQ(n:Nat)(i:Int):Option Nat:=if 0<=i then(if i<n then some i.toNat else none)else if-(n:Int)<=i then some (i+n).toNat else none
def JL{α:Type}(xs:List α)(i:Int):Option α:=(YQ xs.length i).bind fun j=>xs[j]?
theorem RX{n:Nat}{i:Int}{j:Nat}(h:YQ n i=some j):seqIndex? i n=some j/\j<n/\ -(n:Int)<=i/\i<n:=by
 unfold YQ at h;by_cases h0:0<=i
 ·rw[if_pos h0]at h;by_cases h1:i<n
  ·rw[if_pos h1]at h;have e:i.toNat=j:=ax h;exact⟨by rw[seqIndex_of h0 h1,e],by omega,by omega,h1⟩
  ·rw[if_neg h1]at h;cases h
 ·rw[if_neg h0]at h;by_cases h1: -(n:Int)<=i
  ·rw[if_pos h1]at h;have e:(i+n).toNat=j:=ax h;exact⟨by rw[YB (by omega) h1,e],by omega,h1,by omega⟩
  ·rw[if_neg h1]at h;cases h
theorem SF{α:Type}{xs:List α}{i:Int}{v:α}(h:JL xs i=some v):∃j,seqIndex? i xs.length=some j/\xs[j]? =some v/\j<xs.length/\ -(xs.length:Int)<=i/\i<xs.length:=by
 unfold JL at h;cases e:YQ xs.length i with
 |none=>rw[e]at h;cases h
 |some j=>
  rw[e]at h;obtain⟨h1,h2,h3,h4⟩:=RX e;exact⟨j,h1,h,h2,h3,h4⟩
theorem Oi{α:Type}(xs:List α)(v:α):JL (xs++[v]) (-1)=some v:=by
 have hl:(xs++[v]).length=xs.length+1:=by simp
 have e:YQ (xs++[v]).length (-1)=some xs.length:=by
  unfold YQ;rw[hl,if_neg (by decide),if_pos (by omega)]
  congr 1
  omega
 unfold JL;rw[e];show(xs++[v])[xs.length]? =some v;simp
def aaS(b:de):Prop:=∀o i,subscripted b false o i=operate [o,i] (getItem o i)
def IxR(X:Cx)(r:R2):Prop:=
 ∀(value slice:de) (pins:List (Addr×Obj)) (s:au) (σ:St) (H:Hp) (x y:V) (v u:aj) (Q:VK),Inv X pins σ H s->RelV x v->RelV y u->r x y H Q->
  subscripted slice false v u=operate [v,u] (getItem v u)->wpAny (model X.prog X.w) X.A (subscriptTail value slice v u) (EP X pins σ Q) X.xe s
def MtR(X:Cx)(id:String)(r:V->List V->Hp->VK->Prop):Prop:=
 ∀(pins:List (Addr×Obj)) (s:au) (σ:St) (H:Hp) (x:V) (xs:List V) (v:aj) (us:List aj) (Q:VK),Inv X pins σ H s->RelV x v->cZ xs us->r x xs H Q->
  wpAny (model X.prog X.w) X.A (call (.builtin id) (v::us)) (EP X pins σ Q) X.xe s
section
variable {X:Cx} {a b:de} {ta tb:TE} {pos:sY}
theorem eB{r:R2}(hr:IxR X r)(ha:PE X a ta)(hb:PE X b tb)(hs:aaS b):PE X (.Subscript a b pos) (tOp r ta tb):=by
 intro pins s σ H Q I h;exact Subscript_ (adZ ha hb I h fun v u s2 x y H2 I2 rx ry q=>hr a b pins s2 σ H2 x y v u Q I2 rx ry q (hs _ _))
def MQ(K:aq):R2:=fun x y H Q=>E4 fun p xs i v=>A5 (x=.ref p) (y=.int i) (bW K H p xs) (JL xs i=some v) (Q v H)
def ae3(K:aq):R2:=fun x y H Q=>E4 fun p xs i v=>A5 (x=.ref p) (y=.int i) (wa K H p xs) (JL xs i=some v) (Q v H)
theorem cj:IxR X (MQ X.K):=by
 intro value slice pins s σ H x y v u Q I rx ry h hs;obtain⟨p,xs,i,z,rfl,rfl,hq,he,q⟩:=h;cases rx;obtain⟨t,rfl⟩:=ry;obtain⟨dh,r,pl,hz⟩:=I.list hq;obtain⟨j,h1,h2,h3,h4,h5⟩:=SF he;obtain⟨w,ew,rw'⟩:=r.get h2;have hl:=r.length;have hn:=KS;have fin:EP X pins σ Q w s:=⟨z,H,I,rw',q⟩;by_cases h0:0<=i
 ·have hj:i.toNat=j:=by
   rw[seqIndex_of h0 h5]at h1;exact ax h1
  exact item_listR pl.isList h0 (by omega) (by rw[hj];simpa using ew) fin hs
 ·have hj:(i+(dh.toArray.size:Int)).toNat=j:=by
   rw[YB (by omega) h4]at h1;rw[aZ,<-hl];exact ax h1
  exact YG (x:=w) pl.isList.typeIs Ij.lookup
   (wpAny_getItem_list_neg (Q:=fun r s'=>r=w/\EP X pins σ Q r s') pl.isList (by omega) (by rw[aZ]<;>omega) (by omega) (by rw[hj];simpa using ew) ⟨rfl,fin⟩) hs
theorem Qc:IxR X (ae3 X.K):=by
 intro value slice pins s σ H x y v u Q I rx ry h hs;obtain⟨p,xs,i,z,rfl,rfl,hq,he,q⟩:=h;cases rx;obtain⟨t,rfl⟩:=ry;obtain⟨dh,r,pl,hz⟩:=I.tuple hq;obtain⟨j,h1,h2,h3,h4,h5⟩:=SF he;obtain⟨w,ew,rw'⟩:=r.get h2;have hl:=r.length;have hn:=KS;have fin:EP X pins σ Q w s:=⟨z,H,I,rw',q⟩;exact YG (x:=w) pl.typeIs slot_tuple_getitem.lookup
  (getItem_tuple (j:=j) (Q:=fun r s'=>r=w/\EP X pins σ Q r s') pl (by omega) (by omega) (by rw[aZ,<-hl];exact h1) (by simpa using ew) ⟨rfl,fin⟩) hs
theorem PX(dh:List aj)(n j:Nat)(u:aj):Obj.mapSeq (·.setIfInBounds j u) {cls:=.type "list",data:=.seq dh.toArray n}={cls:=.type "list",data:=.seq (dh.set j u).toArray n}:=by
 simp[Obj.mapSeq]
theorem Inv.lst{pins:List (Addr×Obj)}{σ:St}{H:Hp}{s:au}{p:Addr}{xs:List V}(I:Inv X pins σ H s)(h:H p=some (.lst xs)):
  ∃(dh:List aj) (n:Nat),cZ xs dh/\s.heap.get? p=some {cls:=.type "list",data:=.seq dh.toArray n}/\xs.length<=sizeLine:=by
 obtain⟨z,dh,n,r,e⟩:=I.gR p _ h;exact⟨dh,n,r,e,z⟩
theorem Inv.acO{pins:List (Addr×Obj)}{σ:St}{H:Hp}{s:au}{p:Addr}{xs ys:List V}{dh its':List aj}{n n':Nat}{f:Obj->Obj}(I:Inv X pins σ H s)(h:H p=some (.lst xs))
  (ho:s.heap.get? p=some {cls:=.type "list",data:=.seq dh.toArray n})(hf:f {cls:=.type "list",data:=.seq dh.toArray n}={cls:=.type "list",data:=.seq its'.toArray n'})(r:cZ ys its')(hz:ys.length<=sizeLine)(t:Nat):
  Inv X pins σ (upd H p (.lst ys)) {s with heap:=s.heap.update p f,toks:=t}:=by
 have e:(s.heap.update p f).get? p=some {cls:=.type "list",data:=.seq its'.toArray n'}:=by
  rw[Heap.get?_update_self f ho (by rw[hf]<;>rfl),hf]
 refine I.write (x:=p) (e:=p) (by rw[h];trivial) (.inl rfl) (fun b u hb q=>(Heap.get?_update_other _ _ (bT hb)).trans q) ⟨_,e⟩ ?_;exact⟨hz,its',n',r,e⟩
def abd:V->V->V->Hp->(Hp->Prop)->Prop:=fun o i v H Q=>E4 fun p xs k j=>A5 (o=.ref p) (i=.int k) (H p=some (.lst xs)) (YQ xs.length k=some j) (Q (upd H p (.lst (xs.set j v))))
theorem set_list:agy X abd:=by
 intro pins s σ H o i v ov iv u Q I ro ri rv h;obtain⟨p,xs,k,j,rfl,rfl,hp,hj,q⟩:=h;cases ro;obtain⟨t,rfl⟩:=ri;obtain⟨dh,n,r,ho,hz⟩:=I.lst hp;obtain⟨h1,h2,h3,h4⟩:=RX hj;have hl:=r.length;have hn:=KS;have I':Inv X pins σ (upd H p (.lst (xs.set j v))) {s with heap:=s.heap.update p (Obj.mapSeq (·.setIfInBounds j u))}:=
  I.acO hp ho (PX dh n j u) (r.set rv j) (by rw[dD];exact hz) s.toks
 by_cases h0:0<=k
 ·have hk:k.toNat=j:=by
   rw[seqIndex_of h0 h4]at h1;exact ax h1
  exact PySem.W.ki_setAt ho h0 (by omega) (by rw[aZ,<-hl];exact h4) (by rw[hk];exact⟨_,I',q⟩)
 ·have hk:(k+(dh.toArray.size:Int)).toNat=j:=by
   rw[YB (by omega) h3]at h1;rw[aZ,<-hl];exact ax h1
  exact PySem.W.ki_setBack ho (by omega) (by rw[aZ,<-hl];exact h3) (by omega) (by rw[hk];exact⟨_,I',q⟩)
theorem Kb(lo hi:Option Int)(n:Nat):(sliceBounds lo hi none n).1=((HT.HK n 0 lo:Nat):Int)/\(sliceBounds lo hi none n).2.1=((HT.HK n n hi:Nat):Int)/\(sliceBounds lo hi none n).2.2=1:=by
 refine⟨?_,?_,rfl⟩
 ·cases lo with
  |none=>simp[sliceBounds,HT.HK]
  |some i=>
   simp only[sliceBounds,HT.HK,Vz,show(1:Int)>0 by decide,if_true];by_cases h:i<0
   ·simp only[h,if_true]<;>omega
   ·simp only[h,if_false]<;>omega
 ·cases hi with
  |none=>simp[sliceBounds,HT.HK]
  |some i=>
   simp only[sliceBounds,HT.HK,Vz,show(1:Int)>0 by decide,if_true];by_cases h:i<0
   ·simp only[h,if_true]<;>omega
   ·simp only[h,if_false]<;>omega
theorem HV(dh:List aj)(lo hi:Option Int):slicePick dh.toArray lo hi none=((dh.drop (HT.HK dh.length 0 lo)).take (HT.HK dh.length dh.length hi-HT.HK dh.length 0 lo)).toArray:=by
 obtain⟨h1,h2,h3⟩:=Kb lo hi dh.toArray.size;unfold slicePick;rw[h1,h2,h3];simp only[sliceRange_one,pick_run,aZ]<;>rfl
def ahF(K:aq):V->Option Int->Option Int->Hp->VK->Prop:=fun x lo hi H Q=>E2 fun a xs=>A3 (x=.ref a) (bW K H a xs) (∀p,H p=none->Q (.ref p) (upd H p (.lst (qt xs lo hi))))
theorem uR:SlR X (ahF X.K):=by
 intro pins s σ H x v vl vu lo hi sl Q I rx hs pl pu h;obtain⟨a,xs,rfl,hx,q⟩:=h;cases rx;obtain⟨dh,r,ht,hz⟩:=I.list hx;have hlen:=r.length;refine⟨"list",_,Ij.lookup,ht.isList.typeIs,?_⟩;refine Vc ht.isList hs pl pu .none (by simp) ?_ (by rw[aZ]<;>omega);rw[HV,<-hlen];refine⟨.ref s.heap.objs.size,_,I.laid (t':=s.toks) (o:=.lst (qt xs lo hi)) (fun b ob q=>Heap.get?_push_of_some _ q) (ao _) ?_,rfl,q _ (I.gR.fresh (ao _))⟩;exact⟨bN (N5 xs lo hi) hz,_,0,(r.drop (HT.HK xs.length 0 lo)).take (HT.HK xs.length xs.length hi-HT.HK xs.length 0 lo),Heap.get?_push_size _ rfl⟩
def zk:V->Bool
 |.lC=>true
 |.bl _=>true
 |.int _=>true
 |.str _=>true
 |_=>false
def eqV:V->V->Bool
 |.lC,.lC=>true
 |.bl a,.bl b=>a==b
 |.bl a,.int b=>(if a then 1 else 0)==b
 |.int a,.bl b=>a==(if b then 1 else 0)
 |.int a,.int b=>a==b
 |.str a,.str b=>a==b
 |_,_=>false
theorem adK{A:cR}{s:au}{y x:V}{u v:aj}(ry:RelV y u)(rx:RelV x v)(fy:zk y=true)(fx:zk x=true):SeqAt.EqAt A s u v (eqV y x):=by
 cases y with
 |lC=>
  cases ry;cases x with
  |lC=>cases rx;exact SeqAt.EqAt.same _
  |bl b=>cases rx;exact SeqAt.EqAt.none_bool b
  |int b=>obtain⟨t,rfl⟩:=rx;exact SeqAt.EqAt.none_int b t
  |str b=>obtain⟨t,rfl⟩:=rx;exact SeqAt.EqAt.none_str b t
  |_=>exact absurd (show false=true from fx) br
 |bl a=>
  cases ry;cases x with
  |lC=>cases rx;exact SeqAt.EqAt.bool_none a
  |bl b=>cases rx;exact SeqAt.EqAt.bool_bool a b
  |int b=>obtain⟨t,rfl⟩:=rx;exact SeqAt.EqAt.bool_int a b t
  |str b=>obtain⟨t,rfl⟩:=rx;exact SeqAt.EqAt.bool_str a b t
  |_=>exact absurd (show false=true from fx) br
 |int a=>
  obtain⟨t',rfl⟩:=ry;cases x with
  |lC=>cases rx;exact SeqAt.EqAt.int_none a t'
  |bl b=>cases rx;exact SeqAt.EqAt.int_bool a t' b
  |int b=>obtain⟨t,rfl⟩:=rx;exact SeqAt.EqAt.int_int a t' b t
  |str b=>obtain⟨t,rfl⟩:=rx;exact L5 a t' b t
  |_=>exact absurd (show false=true from fx) br
 |str a=>
  obtain⟨t',rfl⟩:=ry;cases x with
  |lC=>cases rx;exact SeqAt.EqAt.str_none a t'
  |bl b=>cases rx;exact SeqAt.EqAt.str_bool a t' b
  |int b=>obtain⟨t,rfl⟩:=rx;exact L3 a t' b t
  |str b=>obtain⟨t,rfl⟩:=rx;exact SeqAt.EqAt.str_str a t' b t
  |_=>exact absurd (show false=true from fx) br
 |_=>exact absurd (show false=true from fy) br
def Qu(x:V)(u:aj):Bool:=match u with
 |.none=>eqV .lC x
 |.bool b=>eqV (.bl b) x
 |.int i _=>eqV (.int i) x
 |.str z _=>eqV (.str z) x
 |_=>false
theorem XW{x y:V}{u:aj}(r:RelV y u)(f:zk y=true):Qu x u=eqV y x:=by
 cases y with
 |lC=>cases r;rfl
 |bl b=>cases r;rfl
 |int i=>obtain⟨t,rfl⟩:=r;rfl
 |str z=>obtain⟨t,rfl⟩:=r;rfl
 |_=>exact absurd (show false=true from f) br
theorem BO{x:V}:∀ {xs:List V} {us:List aj},cZ xs us->xs.all zk=true->us.any (Qu x)=xs.any fun y=>eqV y x
 |_,_,.nil,_=>rfl
 |y::xs,u::us,.cons r t,f=>by
  rw[dM,aE]at f;rw[iR,iR,XW r f.1,BO t f.2]
theorem xj{A:cR}{s:au}{x:V}{v:aj}(rx:RelV x v)(fx:zk x=true):∀ {xs:List V} {us:List aj},cZ xs us->xs.all zk=true->∀u∈us,SeqAt.EqAt A s u v (Qu x u)
 |_,_,.nil,_=>fun u hu=>by cases hu
 |y::xs,u::us,.cons r t,f=>fun u' hu=>by
  rw[dM,aE]at f;rcases aM.mp hu with rfl|hu
  ·rw[XW r f.1];exact adK r rx f.1 fx
  ·exact xj rx fx t f.2 u' hu
def inV(x:V)(xs:List V):Bool:=xs.any fun y=>eqV y x
def rIn(K:aq)(neg:Bool):R2:=fun x y H Q=>E2 fun p xs=>A5 (y=.ref p) (bW K H p xs\/wa K H p xs) (zk x=true) (xs.all zk=true) (Q (.bl (if neg then !inV x xs else inV x xs)) H)
theorem T3:EO X (compareOp .In) (rIn X.K false):=by
 intro pins s σ H x y v u Q I rx ry h;obtain⟨p,xs,rfl,hq,fx,fs,q⟩:=h;cases ry;rcases hq with hq|hq
 ·obtain⟨dh,r,pl,hz⟩:=I.list hq;refine SeqAt.in_listAt (Qu x) pl.isList (fun w hw=>xj rx fx r fs w (by simpa using hw)) ⟨.bl _,H,I,rfl,?_⟩;rw[show dh.toArray.any (Qu x)=dh.any (Qu x)by simp,BO r fs];exact q
 ·obtain⟨dh,r,pl,hz⟩:=I.tuple hq;refine SeqAt.in_tupleAt (Qu x) pl (fun w hw=>xj rx fx r fs w (by simpa using hw)) ⟨.bl _,H,I,rfl,?_⟩;rw[show dh.toArray.any (Qu x)=dh.any (Qu x)by simp,BO r fs];exact q
theorem Bb:EO X (compareOp .NotIn) (rIn X.K true):=by
 intro pins s σ H x y v u Q I rx ry h;obtain⟨p,xs,rfl,hq,fx,fs,q⟩:=h;cases ry;rcases hq with hq|hq
 ·obtain⟨dh,r,pl,hz⟩:=I.list hq;refine SeqAt.notIn_listAt (Qu x) pl.isList (fun w hw=>xj rx fx r fs w (by simpa using hw)) ⟨.bl _,H,I,rfl,?_⟩;rw[show dh.toArray.any (Qu x)=dh.any (Qu x)by simp,BO r fs];exact q
 ·obtain⟨dh,r,pl,hz⟩:=I.tuple hq;refine SeqAt.notIn_tupleAt (Qu x) pl (fun w hw=>xj rx fx r fs w (by simpa using hw)) ⟨.bl _,H,I,rfl,?_⟩;rw[show dh.toArray.any (Qu x)=dh.any (Qu x)by simp,BO r fs];exact q
theorem bg:pZ X (.builtin "len") (fun xs H Q=>∃p ys,xs=[.ref p]/\(bW X.K H p ys\/wa X.K H p ys)/\Q (.int ys.length) H):=by
 intro pins s σ H xs us Q I r h;obtain⟨p,ys,rfl,hq,q⟩:=h;obtain⟨u,rfl,rx⟩:=vals1 r;cases rx;have hn:=KS;rcases hq with hq|hq
 ·obtain⟨dh,r',pl,hz⟩:=I.list hq;have hlen:=r'.length;exact Calls.call_len_list pl.isList (by simp only[aZ]<;>omega) ⟨.int ys.length,H,I.tok _,⟨s.toks+1,by rw[aZ,hlen]⟩,q⟩
 ·obtain⟨dh,r',pl,hz⟩:=I.tuple hq;have hlen:=r'.length;exact len_tuple pl (by simp only[aZ]<;>omega) ⟨.int ys.length,H,I.tok _,⟨s.toks+1,by rw[aZ,hlen]⟩,q⟩
def tyV(K:aq)(T:String)(x:V)(H:Hp):Prop:=match x with
 |.str _=>T="str"
 |.int _=>T="int"
 |.ref p=>(T="list" /\∃xs,bW K H p xs)\/(T="tuple" /\∃o,K.lookup p=some o/\o.cls=.type "tuple" /\o.dict=none)\/
   (T="dict" /\((∃bx,H p=some (.dK bx))\/∃bx,H p=some (.dT bx)))\/(T="set" /\∃S n,H p=some (.set S n))
 |_=>False
theorem abW{pins:List (Addr×Obj)}{σ:St}{H:Hp}{s:au}{T:String}{x:V}{v:aj}(I:Inv X pins σ H s)(r:RelV x v)(ty:tyV X.K T x H):
  s.TypeIs v T/\∀a,v=.ref a->∃ob,s.heap.get? a=some ob/\ob.dict=none:=by
 cases x with
 |str z=>
  obtain⟨t,rfl⟩:=r;cases (show T="str" from ty);exact⟨typeIs_str s z t,fun _ e=>nomatch e⟩
 |int i=>
  obtain⟨t,rfl⟩:=r;cases (show T="int" from ty);exact⟨typeIs_int s i t,fun _ e=>nomatch e⟩
 |ref p=>
  cases r;rcases ty with ⟨rfl,xs,hq⟩|⟨rfl,o,hk,hc,hd⟩|⟨rfl,hk⟩|⟨rfl,S,n,hk⟩
  ·obtain⟨dh,_,pl,_⟩:=I.list hq;refine⟨pl.isList.typeIs,fun a e=>?_⟩;cases e;obtain⟨o,n,e,c,hd,_⟩:=pl;exact⟨o,e,hd⟩
  ·refine⟨⟨o,I.Nr p o hk,hc⟩,fun a e=>?_⟩;cases e;exact⟨o,I.Nr _ o hk,hd⟩
  ·have z:∃o,s.heap.get? p=some o/\o.ExactDict:=by
    rcases hk with ⟨bx,hk⟩|⟨bx,hk⟩
    ·obtain⟨_,_,_,_,o,_,_,e,ex,_⟩:=I.gR p _ hk;exact⟨o,e,ex⟩
    ·obtain⟨_,_,_,_,o,_,_,e,ex,_⟩:=I.gR p _ hk;exact⟨o,e,ex⟩
   obtain⟨o,e,ex⟩:=z;refine⟨⟨o,e,ex.1⟩,fun a e2=>?_⟩;cases e2;exact⟨o,e,ex.2.1⟩
  ·obtain⟨o,_,_,_,e,ex,_⟩:=I.gR p _ hk;refine⟨⟨o,e,ex.1⟩,fun a e2=>?_⟩;cases e2;exact⟨o,e,ex.2.1⟩
 |_=>exact fU ty
def tBM(K:aq)(T:String)(r:V->List V->Hp->VK->Prop)(to:TE)(t:TA):TE:=fun σ H Q=>to σ H fun x H1=>tyV K T x H1/\t σ H1 fun xs H2=>r x xs H2 Q
variable {o e:de} {es:List de} {to:TE} {t:TA} {name:Str} {apos mq:sY} {T id:String} {r:V->List V->Hp->VK->Prop}
theorem lr(pa:PlainAttrs T)(slot:Slot T name id)(hty:typeOf (.builtin id)=pure (.type "method_descriptor"))(hm:MtR X id r)(ho:PE X o to)(ha:PA X (e::es) t)
  (G9:attributeBase o name X.env (eval o X.env)=eval o X.env:=by rfl)
  (adb:((backTo mq (starEach (e::es) X.env)).all (fun x=>!x.1)&&(backToKw mq (keywordEach [] X.env)).all (fun x=>x.1.isSome)
   &&decide ((e::es).length+([]:List Ej).length+(if ([]:List Ej).isEmpty then 0 else 1)<30))=true:=by rfl)
  (G8:(apos.endLine==mq.line)=true:=by rfl)(hs:starEach (e::es) X.env=(false,eval e X.env)::starEach es X.env:=by rfl)(G7:(backTo mq (starEach es X.env)).any (·.1)=false:=by rfl):
  PE X (.Call (.Attribute o name apos) (e::es) [] mq) (tBM X.K T r to t):=by
 intro pins s σ H Q I h;refine wpAny_Call_method_late G9 adb G8 rfl (iW (ho pins s σ H _ I h) fun v s1 ⟨x,H1,I1,r1,ty,q1⟩=>?_);obtain⟨h1,h2⟩:=abW I1 r1 ty;refine⟨T,id,pa,slot,hty,h1,h2,?_⟩;have hA:=ha mq pins s1 σ H1 _ I1 q1;rw[hs]at hA⊢;refine vZ (by show(false||(backTo mq (starEach es X.env)).any (·.1))=false;rw[G7]<;>rfl) (yZ ?_);exact iW hA fun us s2 ⟨vs,H2,I2,r2,q2⟩=>hm pins s2 σ H2 x vs v us Q I2 r1 r2 q2
end
def MtM(X:Cx)(id:String)(r:V->List V->Hp->VK->Prop):Prop:=
 ∀(pins:List (Addr×Obj)) (s:au) (σ:St) (H:Hp) (x:V) (xs:List V) (v:aj) (us:List aj) (Q:VK),Inv X pins σ H s->RelV x v->cZ xs us->r x xs H Q->
  wpAny (model X.prog X.w) X.A (call (.builtin id) (v::us)) (EP X pins σ Q) X.xe s
theorem cZ.one:∀ {x:V} {us:List aj},cZ [x] us->∃u,us=[u]/\RelV x u
 |_,_,.cons r .nil=>⟨_,rfl,r⟩
theorem cZ.eraseIdx:∀ {xs:List V} {us:List aj} (i:Nat),cZ xs us->cZ (xs.eraseIdx i) (us.eraseIdx i)
 |_,_,_,.nil=>.nil
 |_,_,0,.cons _ t=>t
 |_,_,i+1,.cons r t=>.cons r (cZ.eraseIdx i t)
theorem cZ.rep{xs:List V}{us:List aj}(h:cZ xs us):∀k:Nat,cZ (aO k xs).flatten (aO k us).flatten
 |0=>.nil
 |k+1=>by
  rw[iE,iE,oo,oo];exact cZ.append h (cZ.rep h k)
theorem Jh{α:Type}:∀(l:List α) (i:Nat),(l.eraseIdx i).length<=l.length
 |[],_=>ao _
 |_::_,0=>iV _
 |_::r,i+1=>HI (Jh r i)
theorem foldl_rep(dh:List aj):∀(k:Nat) (acc:List aj),
  B9 (fun x1 x2=>x1++x2) acc.toArray (aO k dh.toArray)=(acc++(aO k dh).flatten).toArray
 |0,acc=>by simp
 |k+1,acc=>by
  have e:acc.toArray++dh.toArray=(acc++dh).toArray:=by simp
  have e2:(acc++dh)++(aO k dh).flatten=acc++(aO (k+1) dh).flatten:=by
   rw[iE,oo,dF]
  rw[<-e2,<-foldl_rep dh k (acc++dh),<-e,iE,yl]
section
variable {X:Cx} {pins:List (Addr×Obj)} {σ:St} {H:Hp} {s:au} {l b:Addr} {xs ys zs:List V}
theorem Inv.acP{dh its':List aj}{n:Nat}{f:Array aj->Array aj}{t':Nat}(I:Inv X pins σ H s)(hH:H l=some (.lst xs))
  (e:s.heap.get? l=some {cls:=.type "list",data:=.seq dh.toArray n})(hf:f dh.toArray=its'.toArray)(hv:cZ ys its')(hz:ys.length<=sizeLine):
  Inv X pins σ (upd H l (.lst ys)) {s with heap:=s.heap.update l (Obj.mapSeq f),toks:=t'}:=by
 have q:=PySem.IsL.update e f;rw[hf]at q;refine I.write (x:=l) (e:=l) (by rw[hH];exact trivial) (.inl rfl) (fun b' u hb hu=>(Heap.get?_update_other s.heap (Obj.mapSeq f) (bT hb)).trans hu) ⟨_,q⟩ ?_;exact⟨hz,its',_,hv,q⟩
theorem Inv.afj{dh:List aj}{t':Nat}(I:Inv X pins σ H s)(hv:cZ ys dh)(hz:ys.length<=sizeLine):
  Inv X pins σ (upd H s.heap.objs.size (.lst ys)) {s with heap:=s.heap.push {cls:=.type "list",data:=.seq dh.toArray},toks:=t'}:=
 I.laid (fun _ _ q=>Heap.get?_push_of_some _ q) (ao _) ⟨hz,dh,0,hv,Heap.get?_push_size _ rfl⟩
theorem Inv.fresh(I:Inv X pins σ H s):H s.heap.objs.size=none:=I.gR.fresh (ao _)
theorem Inv.P0(I:Inv X pins σ H s)(hH:H l=some (.lst xs)):xs.length<=sizeLine/\∃(dh:List aj) (n:Nat),cZ xs dh/\xs.length=dh.length/\s.heap.get? l=some {cls:=.type "list",data:=.seq dh.toArray n}:=by
 obtain⟨z,dh,n,r,e⟩:=I.gR l _ hH;exact⟨z,dh,n,r,r.length,e⟩
theorem M6{n:Nat}(h:n<=sizeLine):kQ n=false:=by
 unfold kQ;exact decide_eq_false (by omega)
end
section
variable {X:Cx}
def Rv:V->List V->Hp->VK->Prop:=fun x vs H Q=>E3 fun l xs y=>A5 (x=.ref l) (vs=[y]) (H l=some (.lst xs)) (xs.length<sizeLine) (Q .lC (upd H l (.lst (xs++[y]))))
theorem ju:MtM X "list.append" Rv:=by
 intro pins s σ H x vs v us Q I rx rv h;obtain⟨l,xs,y,rfl,rfl,hH,hz,q⟩:=h;cases rx;obtain⟨u,rfl,ru⟩:=rv.one;obtain⟨z,dh,n,r,hl,e⟩:=I.P0 hH;refine HE F.slot_list_append ⟨_,e,rfl⟩ F.entry_list_append (F.args_list_append_2 _ _) (PySem.list_append l dh.toArray n u (by rw[aZ];omega)) ⟨e,?_⟩;refine⟨.lC,_,I.acP (its':=dh++[u]) hH e (by simp) (r.append (.cons ru .nil)) ?_,rfl,q⟩;rw[ai,QZ];omega
def Ru:V->List V->Hp->VK->Prop:=fun x vs H Q=>E4 fun l b xs zs=>A6 (x=.ref l) (vs=[.ref b]) (H l=some (.lst xs)) (H b=some (.lst zs)) (xs.length+zs.length<=sizeLine) (Q .lC (upd H l (.lst (xs++zs))))
theorem kZ:MtM X "list.extend" Ru:=by
 intro pins s σ H x vs v us Q I rx rv h;obtain⟨l,b,xs,zs,rfl,rfl,hH,hB,hz,q⟩:=h;cases rx;obtain⟨u,rfl,ru⟩:=rv.one;cases ru;obtain⟨z,dh,n,r,hl,e⟩:=I.P0 hH;obtain⟨z2,Qe,n2,r2,hl2,e2⟩:=I.P0 hB;have hsz:dh.toArray.size+Qe.toArray.size<=sizeLine:=by rw[aZ,aZ];omega
 have Xw:¬(!dh.toArray.isEmpty&&kQ (dh.toArray.size+Qe.toArray.size))=true:=by
  rw[M6 hsz,JX];exact br
 refine HE F.slot_list_extend ⟨_,e,rfl⟩ F.entry_list_extend (F.args_list_extend_2 _ _)
  (AutoSeq1.list_extend_list_list_0 l dh.toArray n b Qe.toArray n2 Xw (by rw[aZ];omega) (by omega)) ⟨e,e2,?_⟩
 refine⟨.lC,_,I.acP (its':=dh++Qe) hH e (by simp) (r.append r2) ?_,rfl,q⟩;rw[ai];omega
def acs:V->List V->Hp->VK->Prop:=fun x vs H Q=>E5 fun l xs i k y=>A8 (x=.ref l) (vs=[.int i]) (H l=some (.lst xs)) (-(2^63)<=i) (i<2^63) (seqIndex? i xs.length=some k) (xs[k]? =some y) (Q y (upd H l (.lst (xs.eraseIdx k))))
theorem W7:MtM X "list.pop" acs:=by
 intro pins s σ H x vs v us Q I rx rv h;obtain⟨l,xs,i,k,y,rfl,rfl,hH,h1,h2,hk,hy,q⟩:=h;cases rx;obtain⟨u,rfl,ru⟩:=rv.one;obtain⟨t,rfl⟩:=ru;obtain⟨z,dh,n,r,hl,e⟩:=I.P0 hH;obtain⟨w,hw,rw'⟩:=r.get hy;refine HE F.slot_list_pop ⟨_,e,rfl⟩ F.entry_list_pop (F.args_list_pop_2 _ _)
  (MeetsSeq.list_pop_at l dh.toArray n i t k w (fitsIndex_both h1 h2) (by rw[aZ,<-hl];exact hk) (by rw[<-gM];exact hw) (by rw[aZ];omega)) ⟨e,?_⟩
 refine⟨y,_,I.acP (its':=dh.eraseIdx k) hH e ?_ (r.eraseIdx k) ?_,rw',q⟩
 ·show dh.toArray.eraseIdxIfInBounds k=(dh.eraseIdx k).toArray;rw[List.eraseIdxIfInBounds_toArray]
 ·have:=Jh xs k;omega
def ahJ:R2:=fun x y H Q=>E4 fun l b xs zs=>A6 (x=.ref l) (y=.ref b) (H l=some (.lst xs)) (H b=some (.lst zs)) (xs.length+zs.length<=sizeLine) (∀p,H p=none->Q (.ref p) (upd H p (.lst (xs++zs))))
theorem WS:EO X (binaryOp .Add) ahJ:=by
 intro pins s σ H x y v u Q I rx ry h;obtain⟨l,b,xs,zs,rfl,rfl,hH,hB,hz,q⟩:=h;cases rx;cases ry;obtain⟨z,dh,n,r,hl,e⟩:=I.P0 hH;obtain⟨z2,Qe,n2,r2,hl2,e2⟩:=I.P0 hB;refine PySem.P.add_list e e2 ?_ (by rw[aZ,aZ];omega);have ea:dh.toArray++Qe.toArray=(dh++Qe).toArray:=by simp
 rw[ea];exact⟨.ref _,_,I.afj (t':=s.toks) (r.append r2) (by rw[ai];omega),rfl,q _ I.fresh⟩
def ahG:R2:=fun x y H Q=>E3 fun l k xs=>A6 (x=.ref l) (y=.int k) (H l=some (.lst xs)) (-(2^63)<=k) (k<2^63) (xs.length*k.toNat<=sizeLine/\∀p,H p=none->Q (.ref p) (upd H p (.lst (aO k.toNat xs).flatten)))
theorem len_rep{α:Type}(xs:List α)(k:Nat):(aO k xs).flatten.length=k*xs.length:=by
 induction k with
 |zero=>simp
 |succ k ih=>rw[iE,oo,ai,ih,EZ,yj]
theorem acF:EO X (binaryOp .Mult) ahG:=by
 intro pins s σ H x y v u Q I rx ry h;obtain⟨l,k,xs,rfl,rfl,hH,h1,h2,hz,q⟩:=h;cases rx;obtain⟨t,rfl⟩:=ry;obtain⟨z,dh,n,r,hl,e⟩:=I.P0 hH;have hlen:dh.toArray.size*k.toNat<=sizeLine:=by rw[aZ,<-hl];exact hz
 have aiV:¬dh.toArray.size*k.toNat>(2^63-1)/8:=by
  have:(sizeLine:Nat)<=(2^63-1)/8:=by decide
  omega
 have aiO:¬(!Builtin.List.listFitsIndex k)=true:=by
  rw[fitsIndex_both h1 h2];exact br
 have Xw:¬kQ (dh.toArray.size*k.toNat)=true:=by
  rw[M6 hlen];exact br
 have aiu:B9 (fun x1 x2=>x1++x2) #[] (aO (if dh.toArray.isEmpty=true then 0 else k.toNat) dh.toArray)=(aO k.toNat dh).flatten.toArray:=by
  have f0:∀m:Nat,B9 (fun x1 x2=>x1++x2) #[] (aO m dh.toArray)=(aO m dh).flatten.toArray:=fun m=>by
   have:=foldl_rep dh m [];rw[List.nil_append]at this;exact this
  rw[f0];cases dh with
  |nil=>simp
  |cons a r'=>rw[if_neg (by simp)]
 refine wpAny_binaryOp_repeat_ref (T:="list") (U:="int") (by decide) ⟨_,e,rfl⟩ (fun s'=>typeIs_int s' k t) noFill_list_mul F.fills_int_mul F.slot_int_rmul repeat_list F.slot_int_index.lookup
  (HE F.slot_int_rmul (typeIs_int s k t) F.entry_int_rmul (F.args_int_rmul_2 _ _) (int___rmul___int_list k t l dh.toArray n)
   ⟨e,rfl,⟨_,e,rfl⟩,HE F.slot_list_mul ⟨_,e,rfl⟩ F.entry_list_mul (F.args_list_mul_2 _ _) (AutoListH.list___mul___list_int_3 l dh.toArray n k t aiO aiV Xw) ⟨e,?_⟩⟩)
 rw[aiu];exact⟨.ref _,_,I.afj (t':=s.toks) (r.rep k.toNat) (by rw[len_rep,lP];exact hz),rfl,q _ I.fresh⟩
end
section
variable {prog:bw} {w:bQ} {A:cR} {E:aj->au->Prop} {s:au}
end
section
variable {X:Cx}
end
theorem cZ.ints:∀ {ns:List Int} {us:List aj},cZ (ns.map V.int) us->Iq us ns
 |[],us,h=>by
  rw[oh]at h;cases h;exact IntsAre.nil
 |n::ns,us,h=>by
  rw[bo]at h;cases h with
  |cons r t=>
   obtain⟨k,rfl⟩:=r;exact IntsAre.cons n k (cZ.ints t)
theorem uP:∀ {us:List aj} {ns:List Int},Iq us ns->cZ (ns.map V.int) us
 |_,_,.nil=>by rw[oh];exact Paired.nil
 |_,_,.cons n t h=>by rw[bo];exact Paired.cons (show RelV (V.int n) (lB n t)from⟨t,rfl⟩) (uP h)
theorem cZ.bls:∀ {bs:List Bool} {us:List aj},cZ (bs.map V.bl) us->us=bs.map pF
 |[],us,h=>by
  rw[oh]at h;cases h;rfl
 |b::bs,us,h=>by
  rw[bo]at h;cases h with
  |cons r t=>
   cases r;rw[cZ.bls t,bo]
theorem cZ.Kt{a:Addr}{us:List aj}(r:cZ [V.ref a] us):us=[eQ a]:=by
 cases r with
 |cons r t=>
  cases t;cases r;rfl
section
variable {prog:bw} {w:bQ} {A:cR} {E:aj->au->Prop} {s:au} {l:Addr} {dh:List aj} {ns:List Int} {Q:aj->au->Prop}
theorem Zc(hh:A.handled=none)(hl:s.heap.IsList l dh.toArray)(hi:Iq dh ns)
  (h:∀h' tk t',(∀b o,s.heap.get? b=some o->h'.get? b=some o)->Q (.int ns.sum t') {s with heap:=h',toks:=tk}):wpAny (model prog w) A (call (.builtin "sum") [.ref l]) Q E s:=by
 obtain⟨xs,e⟩:=hi.allInts.items;have hn:numsOf (intItems xs).toList=ns:=by rw[<-e];exact hi.numsOf
 rw[nums_intItems]at hn;rw[e]at hl;refine PySem.sum_intListG hh hl fun h' tk t' hk=>?_
 have:=h h' tk t' hk;rw[preSum_eq,og (by simp),hn];exact this
theorem Z2(hh:A.handled=none)(hl:s.heap.IsList l dh.toArray)(hi:Iq dh ns)(j1:0<ns.length)
  (h:∀h' tk M t',(∀b o,s.heap.get? b=some o->h'.get? b=some o)->M∈ns->(∀a,a∈ns->a<=M)->Q (.int M t') {s with heap:=h',toks:=tk}):wpAny (model prog w) A (call (.builtin "max") [.ref l]) Q E s:=by
 obtain⟨xs,e⟩:=hi.allInts.items;have hn:numsOf (intItems xs).toList=ns:=by rw[<-e];exact hi.numsOf
 rw[nums_intItems]at hn;subst hn;rw[e]at hl;have hsz:0<xs.size:=by simpa using j1
 refine PySem.max_intList hh hl hsz fun v h' tk hv hk=>?_
 obtain⟨t,rfl⟩:=intItems_at hv;obtain⟨h1,h2⟩:=argBest_gt (numAt xs) (xs.size-1);refine h h' tk _ t hk ?_ fun a ha=>?_
 ·rw[numAt_eq];exact PySem.getD_mem (by rw[ae,aI];omega)
 ·obtain⟨j,hj,rfl⟩:=mem_getD ha;rw[ae,aI]at hj;rw[<-numAt_eq];exact h2 j (by omega)
end
section
variable {X:Cx}
def ahE(K:aq):List V->Hp->VK->Prop:=fun vs H Q=>E2 fun(a:Addr) (ns:List Int)=>A3 (vs=[V.ref a]) (bW K H a (ns.map V.int)) (Q (.int ns.sum) H)
def ahH(K:aq):List V->Hp->VK->Prop:=fun vs H Q=>E2 fun(a:Addr) (ns:List Int)=>A4 (vs=[V.ref a]) (bW K H a (ns.map V.int)) (0<ns.length) (∀m,m∈ns->(∀y,y∈ns->y<=m)->Q (.int m) H)
theorem Yg(hc:X.calm=true):pZ X (.builtin "sum") (ahE X.K):=by
 intro pins s σ H vs us Q I r h;obtain⟨a,ns,rfl,hs,q⟩:=h;obtain⟨dh,rv,hl,_⟩:=I.list hs;rw[cZ.Kt r];exact Zc (I.ok.hd hc) hl.isList rv.ints fun h' tk t' hk=>⟨.int _,H,I.kept hk,⟨_,rfl⟩,q⟩
theorem adR(hc:X.calm=true):pZ X (.builtin "max") (ahH X.K):=by
 intro pins s σ H vs us Q I r h;obtain⟨a,ns,rfl,hs,j1,q⟩:=h;obtain⟨dh,rv,hl,_⟩:=I.list hs;rw[cZ.Kt r];exact Z2 (I.ok.hd hc) hl.isList rv.ints j1 fun h' tk m t' hk h1 h2=>⟨.int _,H,I.kept hk,⟨_,rfl⟩,q m h1 h2⟩
end
section
variable {X:Cx}
end
section
variable {X:Cx}
end
theorem Nu{prog:bw}{w:bQ}{A:cR}{E:aj->au->Prop}{s:au}{l:Addr}{items:Array aj}{Q:aj->au->Prop}(hl:s.heap.IsList l items)
  (h:∀s₂:au,s₂={s with heap:=s.heap.push {cls:=.type "list_iterator",data:=.fields #[.ref l,.int 0 0]}}->
   (s₂.heap.IsListIter s.heap.objs.size l 0/\s₂.heap.IsList l items)->l≠s.heap.objs.size->Q (.ref s.heap.objs.size) s₂):wpAny (model prog w) A (pyIter (.ref l)) Q E s:=by
 have lM:l<s.heap.objs.size:=by obtain⟨_,e,_⟩:=hl;exact Heap.lt_size e
 exact lG hl (h _ rfl ⟨⟨_,Heap.get?_push_size _ rfl,rfl,rfl⟩,hl.push _⟩ (bE lM))
theorem Dl{prog:bw}{w:bQ}{A:cR}{bs:List Bool}{dh:List aj}(e:dh=bs.map pF):
  TruthOf prog w A (fun i v=>dh.toArray[i]? =some v) (fun i=>bs.getD i false):=fun i v s Q E hv hq=>by
 have hv':dh[i]? =some v:=by simpa using hv
 rw[e,cI]at hv';obtain⟨b,hb,rfl⟩:=jW.mp hv';have hg:bs.getD i false=b:=by rw[aW,hb]<;>rfl
 have lU:Q (bs.getD i false) s:=hq;rw[hg]at lU;exact lD lU
theorem any_range:∀bs:List Bool,(aG bs.length).any (fun i=>bs.getD i false)=bs.any id
 |[]=>rfl
 |b::bs=>by
  rw[az,we,iR,En,iR,<-any_range bs]
  all_goals rfl
theorem all_range:∀bs:List Bool,(aG bs.length).all (fun i=>bs.getD i false)=bs.all id
 |[]=>rfl
 |b::bs=>by
  rw[az,we,dM,rK,dM,<-all_range bs]
  all_goals rfl
section
variable {X:Cx}
def ahK(K:aq):List V->Hp->VK->Prop:=fun vs H Q=>E2 fun(a:Addr) (bs:List Bool)=>A3 (vs=[V.ref a]) (bW K H a (bs.map V.bl)) (Q (.bl (bs.any id)) H)
def ahL(K:aq):List V->Hp->VK->Prop:=fun vs H Q=>E2 fun(a:Addr) (bs:List Bool)=>A3 (vs=[V.ref a]) (bW K H a (bs.map V.bl)) (Q (.bl (bs.all id)) H)
theorem adS(hc:X.calm=true):pZ X (.builtin "any") (ahK X.K):=by
 intro pins s σ H vs us Q I r h;obtain⟨a,bs,rfl,hs,q⟩:=h;obtain⟨dh,rv,hl,_⟩:=I.list hs;rw[cZ.Kt r];have hb:=rv.bls;refine call_any_walk (Nu hl.isList fun s₂ e2 st j1=>?_);subst e2;refine⟨_,_,_,_,_,_,_,rfl,Ve (A:=X.A.in1) (I.ok.hd hc) _ a j1 dh.toArray,st,Dl hb,fun h' tk hk=>?_⟩;refine⟨.bl _,H,I.kept fun b o eo=>hk b o (fun yS=>?_) (Heap.get?_push_of_some _ eo),?_,q⟩
 ·rcases aM.mp yS with e1|yS
  ·exact absurd (e1▸Heap.lt_size eo) (et _)
  ·cases yS
 ·show pF _=pF _;rw[<-any_range,hb,aZ,ae]
theorem Yh(hc:X.calm=true):pZ X (.builtin "all") (ahL X.K):=by
 intro pins s σ H vs us Q I r h;obtain⟨a,bs,rfl,hs,q⟩:=h;obtain⟨dh,rv,hl,_⟩:=I.list hs;rw[cZ.Kt r];have hb:=rv.bls;refine call_all_walk (Nu hl.isList fun s₂ e2 st j1=>?_);subst e2;refine⟨_,_,_,_,_,_,_,rfl,Ve (A:=X.A.in1) (I.ok.hd hc) _ a j1 dh.toArray,st,Dl hb,fun h' tk hk=>?_⟩;refine⟨.bl _,H,I.kept fun b o eo=>hk b o (fun yS=>?_) (Heap.get?_push_of_some _ eo),?_,q⟩
 ·rcases aM.mp yS with e1|yS
  ·exact absurd (e1▸Heap.lt_size eo) (et _)
  ·cases yS
 ·show pF _=pF _;rw[<-all_range,hb,aZ,ae]
end
section
variable {X:Cx} {pins:List (Addr×Obj)} {σ:St} {H:Hp} {s:au}
end
section
variable {X:Cx}
end
abbrev Yv(h:Heap)(c:Addr)(v:Option aj):Prop:=h.IsCell c v
def ahB(scope sc:Scope):Scope:=
 {scope with names:=scope.names.map fun(n,k)=>if (k== .free&&sc.kind== .function&&sc.names.lookup n==some .cell)then(n,.cell)else(n,k)}
def gS(cells:List (Str×Addr)):List (Str×jB)->List (Str×Addr)->List (Str×Addr)
 |[],acc=>acc
 |(n,k)::r,acc=>if k== .free then gS cells r ((n,(cells.lookup n).getD 0)::acc)else gS cells r acc
theorem BK(env:OG)(f:Str×jB->List (Str×Addr)->Sem (ForInStep (List (Str×Addr))))
  (hf:∀n k c,f (n,k) c=if k== .free then(do let a<-cellOf env n;pure (.yield ((n,a)::c)))else pure (.yield c)):
  ∀(names:List (Str×jB)) (acc:List (Str×Addr)),(∀y∈names,y.2=.free->∃c,env.cells.lookup y.1=some c)->forIn names acc f=pure (gS env.cells names acc)
 |[],acc,_=>by rw[List.forIn_nil];rfl
 |(n,k)::r,acc,h=>by
  rw[List.forIn_cons,hf];have ih:=fun acc=>BK env f hf r acc fun y hy=>h y (aA _ hy)
  unfold gS;by_cases hk:(k==oM)=true
  ·rw[if_pos hk,if_pos hk];obtain⟨c,hc⟩:=h (n,k) ah (by simpa using hk);have e:cellOf env n=pure c:=by unfold cellOf;rw[hc]
   rw[e];have e2:(env.cells.lookup n).getD 0=c:=by rw[hc];rfl
   rw[e2];exact ih _
  ·rw[if_neg hk,if_neg hk];exact ih _
theorem Qy{scope:Scope}{env:OG}(h:∀y∈scope.names,y.2=.free->∃c,env.cells.lookup y.1=some c):closureFor scope env=pure (gS env.cells scope.names []):=by
 simp only[closureFor];rw[BK env _ (fun n k c=>rfl) scope.names [] h];rfl
theorem mem_lookup{α:Type}:∀ {l:List (Str×α)} {n:Str} {c:α},(n,c)∈l->∃c',l.lookup n=some c'
 |(k,v)::r,n,c,h=>by
  rw[jG];cases hb:n==k with
  |true=>exact⟨_,rfl⟩
  |false=>
   rcases aM.mp h with e|h
   ·cases e;simp at hb
   ·exact mem_lookup h
theorem sU{cells:List (Str×Addr)}:∀ {names:List (Str×jB)} {acc:List (Str×Addr)} {n:Str} {c:Addr},(n,c)∈gS cells names acc->(n,c)∈acc\/((n,.free)∈names/\c=(cells.lookup n).getD 0)
 |[],_,_,_,h=>.inl h
 |(m,k)::r,acc,n,c,h=>by
  unfold gS at h;split at h
  ·rename_i hk;have hk:k=.free:=by simpa using hk
   rcases sU h with h|⟨h1,h2⟩
   ·rcases aM.mp h with e|h
    ·cases e;exact .inr ⟨hk▸ah,rfl⟩
    ·exact .inl h
   ·exact .inr ⟨aA _ h1,h2⟩
  ·rcases sU h with h|⟨h1,h2⟩
   ·exact .inl h
   ·exact .inr ⟨aA _ h1,h2⟩
theorem x8{cells:List (Str×Addr)}:∀ {names:List (Str×jB)} {acc:List (Str×Addr)} {p:Str×Addr},p∈acc->p∈gS cells names acc
 |[],_,_,h=>h
 |(m,k)::r,acc,p,h=>by
  unfold gS;split
  ·exact x8 (aA _ h)
  ·exact x8 h
theorem xZ{cells:List (Str×Addr)}:∀ {names:List (Str×jB)} {acc:List (Str×Addr)} {n:Str},(n,.free)∈names->(n,(cells.lookup n).getD 0)∈gS cells names acc
 |(m,k)::r,acc,n,h=>by
  unfold gS;rcases aM.mp h with e|h
  ·cases e;exact x8 ah
  ·split
   ·exact xZ h
   ·exact xZ h
theorem uA:∀ {names:List (Str×jB)} {h:Heap} {acc:List (Str×Addr)} {x:Str} {c:Addr},(x,c)∈cellsFrom h.objs.size names acc->
  (x,c)∈acc\/((x,.cell)∈names/\h.objs.size<=c/\Yv (pushCells h names) c none)
 |[],_,_,_,_,h=>.inl h
 |(n,k)::r,h,acc,x,c,hm=>by
  unfold cellsFrom at hm;unfold pushCells;split at hm
  ·rename_i hk;rw[if_pos hk];have hk:k=.cell:=by simpa using hk
   rw[<-Heap.size_push h {cls:=.type "cell",data:=.cell none}]at hm;rcases uA hm with hm|⟨h1,h2,h3⟩
   ·rcases aM.mp hm with e|hm
    ·cases e;exact .inr ⟨hk▸ah,ao _,_,AD r _ _ _ (Heap.get?_push_size _ rfl),rfl⟩
    ·exact .inl hm
   ·rw[Heap.size_push]at h2;exact .inr ⟨aA _ h1,uK h2,h3⟩
  ·rename_i hk;rw[if_neg hk];rcases uA hm with hm|⟨h1,h2,h3⟩
   ·exact .inl hm
   ·exact .inr ⟨aA _ h1,h2,h3⟩
theorem yI:∀ {names:List (Str×jB)} {n:Nat} {acc:List (Str×Addr)} {p:Str×Addr},p∈acc->p∈cellsFrom n names acc
 |[],_,_,_,h=>h
 |(m,k)::r,n,acc,p,h=>by
  unfold cellsFrom;split
  ·exact yI (aA _ h)
  ·exact yI h
theorem C7:∀ {names:List (Str×jB)} {n:Nat} {acc:List (Str×Addr)} {x:Str},(x,.cell)∈names->∃c,(x,c)∈cellsFrom n names acc
 |(m,k)::r,n,acc,x,h=>by
  unfold cellsFrom;rcases aM.mp h with e|h
  ·cases e;exact⟨n,yI ah⟩
  ·split
   ·exact C7 h
   ·exact C7 h
theorem C6:∀ {names:List (Str×jB)} {h:Heap} {acc:List (Str×Addr)} {x y:Str} {c:Addr},(∀p∈acc,p.2<h.objs.size)->(∀x y c,(x,c)∈acc->(y,c)∈acc->x=y)->
  (x,c)∈cellsFrom h.objs.size names acc->(y,c)∈cellsFrom h.objs.size names acc->x=y
 |[],_,_,_,_,_,_,hi,h1,h2=>hi _ _ _ h1 h2
 |(n,k)::r,h,acc,x,y,c,hl,hi,h1,h2=>by
  unfold cellsFrom at h1 h2;split at h1
  ·rename_i hk;rw[if_pos hk]at h2;rw[<-Heap.size_push h {cls:=.type "cell",data:=.cell none}]at h1 h2;refine C6 (h:=h.push _) (fun p hp=>?_) (fun x y c a b=>?_) h1 h2
   ·rw[Heap.size_push];rcases aM.mp hp with rfl|hp
    ·exact v7 _
    ·exact kS (hl p hp)
   ·rcases aM.mp a with e|a<;>rcases aM.mp b with e'|b
    ·cases e;cases e';rfl
    ·cases e;exact absurd (hl _ b) (et _)
    ·cases e';exact absurd (hl _ a) (et _)
    ·exact hi _ _ _ a b
  ·rename_i hk;rw[if_neg hk]at h2;exact C6 hl hi h1 h2
theorem M8{M:Model}{A:cR}{E:aj->au->Prop}{s:au}{scope:Scope}{globals:Addr}{closure:List (Str×Addr)}{qual:Str}{func:Option Addr}{code:aj}{around:OG}{builtins:Addr}{Q:OG->au->Prop}
  (h:Q (newEnv scope s.heap.objs.size globals (cellsFrom (s.heap.objs.size+1) scope.names closure) qual func code (some around) builtins)
   {s with heap:=pushCells (s.heap.push {cls:=.type "dict",data:=.dict #[]}) scope.names}):
  wpAny M A (newFunctionEnv scope globals closure [] qual func code (some around) builtins) Q E s:=by
 simp only[newFunctionEnv,rJ,if_true];refine ag (wpAny_alloc ?_);refine ag (wpAny_layCells _ (fun n k c=>rfl) scope.names closure _ _ ?_);rw[show({s with heap:=s.heap.push {cls:=.type "dict",data:=.dict #[]}}:au).heap.objs.size=s.heap.objs.size+1 from Heap.size_push ..];rw[List.forIn_nil];exact ag (aD (aD h))
theorem xk{sc:Scope}:∀ {names:List (Str×jB)} {x:Str} {k:jB},
  (names.map fun(n,k)=>if (k==oM&&sc.kind== .function&&sc.names.lookup n==some .cell)then(n,HP)else(n,k)).lookup x=some k->
  ∃k',names.lookup x=some k'/\(k=k'\/(k'=.free/\k=.cell))
 |[],_,_,h=>by simp at h
 |(n,k₀)::r,x,k,h=>by
  have ih:=@xk sc r x k;have h':nJ x ((if (k₀==oM&&sc.kind== .function&&sc.names.lookup n==some .cell)=true then(n,HP)else(n,k₀))::(r.map _))=some k:=h;cases hx:x==n with
  |true=>
   simp only[jG,hx];by_cases hc:(k₀==oM&&sc.kind== .function&&sc.names.lookup n==some .cell)=true
   ·rw[if_pos hc]at h';simp only[jG,hx]at h';cases h';simp only[aE,beq_iff_eq]at hc;exact⟨k₀,rfl,.inr ⟨hc.1.1,rfl⟩⟩
   ·rw[if_neg hc]at h';simp only[jG,hx]at h';cases h';exact⟨_,rfl,.inl rfl⟩
  |false=>
   simp only[jG,hx];by_cases hc:(k₀==oM&&sc.kind== .function&&sc.names.lookup n==some .cell)=true
   ·rw[if_pos hc]at h';simp only[jG,hx]at h';exact ih h'
   ·rw[if_neg hc]at h';simp only[jG,hx]at h';exact ih h'
structure Ow(N:List Str)(sc scope:Scope)(own:List (Str×Nat)):Prop where
 kind:scope.kind=.function
 uniq:∀y∈scope.names,scope.names.lookup y.1=some y.2
 ix:∀p∈own,N[p.2]? =some p.1
 free:∀y∈scope.names,y.2=.free->sc.names.lookup y.1=some .cell\/sc.names.lookup y.1=some .free
 own:∀y∈scope.names,y.2=.local\/y.2=.cell->y.1∈own.map (·.1)\/y.1∉N
def wipe(σ:St):List Nat->St
 |[]=>σ
 |v::vs=>(wipe σ vs).set v none
theorem wq(σ:St):∀vs:List Nat,(wipe σ vs).length=σ.length
 |[]=>rfl
 |v::vs=>by unfold wipe;rw[dD,wq σ vs]
theorem Cg{σ:St}{i:Nat}{x:V}:∀ {vs:List Nat},(wipe σ vs)[i]? =some (some x)->σ[i]? =some (some x)/\i∉vs
 |[],h=>⟨h,by simp⟩
 |v::vs,h=>by
  unfold wipe at h;by_cases hi:v=i
  ·subst hi;by_cases hv:v<(wipe σ vs).length
   ·rw[oj hv]at h;cases h
   ·rw[fL (by simpa using hv)]at h;cases h
  ·rw[p7 hi]at h;obtain⟨h1,h2⟩:=Cg h;exact⟨h1,by simp only[aM,not_or];exact⟨fun e=>hi e.symm,h2⟩⟩
abbrev Cx.Lv(X:Cx)(s:au)(H:Hp)(scope:Scope)(mD:OG)(fp:List Addr):Cx:={X with II:=s,H_0:=H,env:=mD,outer:=X.stack,ex:=fp,fn:=fun x=>scope.names.lookup x==some .cell,pn:=[],xe:=fun _ _=>False}
section
variable {X:Cx} {pins:List (Addr×Obj)} {σ:St} {H:Hp} {s:au}
theorem Og{scope:Scope}{own:List (Str×Nat)}{fp:List Addr}(I:Inv X pins σ H s)(ok:Ow X.N X.env.scope scope own)(hN:X.N.Nodup)(hfp:∀b∈fp,HB X pins H b/\b<s.heap.objs.size):
  Inv (X.Lv s H scope (compEnvC scope (cellsFrom (s.heap.objs.size+1) scope.names (gS X.env.cells scope.names [])) s.heap.objs.size X.env) fp) [] (wipe σ (own.map (·.2))) H {s with heap:=pushCells (s.heap.push {cls:=.type "dict",data:=.dict #[]}) scope.names}:=by
 have Js:∀y∈scope.names,y.2=.free->∃c,X.env.cells.lookup y.1=some c:=fun y hy e=>by
  rcases ok.free y hy e with k|k
  ·exact I.ok.has _ (.inl k)
  ·exact I.ok.has _ (.inr k)
 generalize NG:compEnvC scope (cellsFrom (s.heap.objs.size+1) scope.names (gS X.env.cells scope.names [])) s.heap.objs.size X.env=mD;have kp:∀b o,s.heap.get? b=some o->(pushCells (s.heap.push {cls:=.type "dict",data:=.dict #[]}) scope.names).get? b=some o:=fun b o e=>AD _ _ _ _ (Heap.get?_push_of_some _ e)
 have hL:mD.locals=s.heap.objs.size:=by rw[<-NG];rfl
 have NF:mD.cells=cellsFrom (s.heap.objs.size+1) scope.names (gS X.env.cells scope.names []):=by rw[<-NG];rfl
 have hsc:mD.scope=ahB scope X.env.scope:=by rw[<-NG];rfl
 rw[<-Heap.size_push s.heap {cls:=.type "dict",data:=.dict #[]}]at NF;have cm:∀ {y c},(y,c)∈gS X.env.cells scope.names []->X.env.cells.lookup y=some c/\c<s.heap.objs.size:=fun{y c} hm=>by
  rcases sU hm with hm|⟨h1,rfl⟩
  ·cases hm
  ·obtain⟨c,hc⟩:=Js _ h1 rfl;rw[hc];obtain⟨w,z⟩:=I.cell _ _ hc;exact⟨rfl,z.lt⟩
 have mem:∀ {y c},mD.cells.lookup y=some c->(X.env.cells.lookup y=some c/\c<s.heap.objs.size)\/(s.heap.objs.size+1<=c/\Yv (pushCells (s.heap.push {cls:=.type "dict",data:=.dict #[]}) scope.names) c none):=fun{y c} e=>by
  rw[NF]at e;rcases uA (cu e)with hm|⟨_,h2,h3⟩
  ·exact .inl (cm hm)
  ·rw[Heap.size_push]at h2;exact .inr ⟨h2,h3⟩
 have look:∀ {y},scope.names.lookup y=some .free->∃c,mD.cells.lookup y=some c/\X.env.cells.lookup y=some c:=fun{y} hl=>by
  have hy:(y,oM)∈scope.names:=cu hl;obtain⟨c',e'⟩:=mem_lookup (yI (names:=scope.names) (n:=(s.heap.push {cls:=.type "dict",data:=.dict #[]}).objs.size) (xZ (cells:=X.env.cells) (acc:=[]) hy));rw[<-NF]at e';refine⟨c',e',?_⟩;rw[NF]at e';rcases uA (cu e')with hm|⟨h1,_,_⟩
  ·exact(cm hm).1
  ·have:=ok.uniq _ h1;rw[hl]at this;cases this
 have okB:(X.Lv s H scope mD fp).Ok:=by
  refine⟨I.ok.mod,by show mD.scope.kind=_;rw[hsc];exact ok.kind,by show mD.globals=_;rw[<-NG];exact I.ok.glob,by show mD.builtins=_;rw[<-NG];exact I.ok.blt,by show s.heap.objs.size<=mD.locals;rw[hL];exact ao _,
   fun y z c e1 e2=>?_,fun y hy=>?_,fun y c z e=>?_,I.ok.hd,I.ok.frames,.inl rfl,fun b hb=>⟨?_,fun y c e z=>?_⟩,I.bs,bN I.ok.bsz I.sz,fun b o e hb=>?_,fun b hb z=>?_,I.stack,I.Q8⟩
  ·have e1:mD.cells.lookup y=some c:=e1;have e2:mD.cells.lookup z=some c:=e2;rw[NF]at e1 e2;refine C6 (fun p hp=>?_) (fun y z c a b=>I.ok.inj y z c (cm a).1 (cm b).1) (cu e1) (cu e2);rw[Heap.size_push];exact kS (cm (y:=p.1) (c:=p.2) hp).2
  ·show ∃c,mD.cells.lookup y=some c;have key:∀k,mD.kindOf y=some k->(k=.cell\/k=.free)->∃c,mD.cells.lookup y=some c:=fun k hk LR=>by
    unfold Env.kindOf at hk;rw[hsc]at hk;obtain⟨k',e,r⟩:=xk hk;have:k'=.cell\/k'=.free:=by
     rcases r with rfl|⟨rfl,_⟩
     ·exact LR
     ·exact .inr rfl
    rcases this with rfl|rfl
    ·obtain⟨c,hm⟩:=C7 (n:=(s.heap.push {cls:=.type "dict",data:=.dict #[]}).objs.size) (acc:=gS X.env.cells scope.names []) (cu e);obtain⟨c',e'⟩:=mem_lookup hm;exact⟨c',by rw[NF];exact e'⟩
    ·obtain⟨c,h1,_⟩:=look e;exact⟨c,h1⟩
   rcases hy with hy|hy
   ·exact key _ hy (.inl rfl)
   ·exact key _ hy (.inr rfl)
  ·have z:(scope.names.lookup y==some HP)=true:=z;have z:scope.names.lookup y=some .cell:=by simpa using z
   have e:mD.cells.lookup y=some c:=e;rw[NF]at e;rcases uA (cu e)with hm|⟨_,h2,_⟩
   ·rcases sU hm with hm|⟨h1,_⟩
    ·cases hm
    ·have q:=ok.uniq _ h1;rw[z]at q;cases q
   ·rw[Heap.size_push]at h2;exact uK h2
  ·show b≠mD.locals;rw[hL];exact bE (hfp b hb).2
  ·have e:mD.cells.lookup y=some c:=e;rcases mem e with ⟨h1,_⟩|⟨h1,_⟩
   ·exact(hfp b hb).1.2.2.2.2.1 y c h1 z
   ·have h2:s.heap.objs.size+1<=b:=by rw[<-z];exact h1
    exact absurd (bV (hfp b hb).2 (uK h2)) (et _)
  ·rcases(hfp b hb).1.2.2.2.1 with z|z
   ·exact I.ok.W2 b o e z
   ·exact absurd (bV (Heap.lt_size e) (bN I.ok.bsz z)) (et _)
  ·rcases aM.mp (I.Pa b z)with z|z
   ·exact(hfp b hb).1.2.1 z
   ·exact(hfp b hb).1.2.2.1 z
 refine⟨okB,rfl,I.bare,Un.kept kp,⟨fun _=>none,?_,fun i y av e1 e2 e3=>?_⟩,fun y c e=>?_,?_,fun y c e=>?_,fun p hp=>?_,I.gR.kept kp,by rw[wq];exact I.len⟩
 ·show Heap.Ns _ mD.locals _;rw[hL];exact Heap.Ns.keeps (Heap.Ns.new ..) fun b o e=>AD _ _ _ _ e
 ·obtain⟨e2,j1⟩:=Cg e2;have hfr:scope.names.lookup y=some .free/\(mD.kindOf y=some .cell\/mD.kindOf y=some .free):=by
   have key:∀k,mD.scope.names.lookup y=some k->k=.local\/k=.cell\/k=.free->scope.names.lookup y=some .free/\(mD.kindOf y=some .cell\/mD.kindOf y=some .free):=fun k hk LR=>by
    have hk0:=hk;rw[hsc]at hk;obtain⟨k',e,r⟩:=xk hk;have no:¬(k'=.local\/k'=.cell):=fun hh=>by
     rcases ok.own _ (cu e) hh with e'|e'
     ·obtain⟨p,hp,hpy⟩:=bh.mp e';have e3:=ok.ix p hp;have:p.1=y:=hpy;rw[this]at e3;exact j1 (bh.mpr ⟨p,hp,GK hN e3 e1⟩)
     ·exact e' (bC e1)
    rcases r with rfl|⟨rfl,rfl⟩
    ·rcases LR with rfl|rfl|rfl
     ·exact absurd (.inl rfl) no
     ·exact absurd (.inr rfl) no
     ·exact⟨e,.inr hk0⟩
    ·exact⟨e,.inl hk0⟩
   have e3:Vis mD.scope y:=e3;rcases e3 with e3|e3|e3
   ·exact key _ e3 (.inl rfl)
   ·exact key _ e3 (.inr (.inl rfl))
   ·exact key _ e3 (.inr (.inr rfl))
  obtain⟨m,hn,hl⟩:=I.loc;have aia:Vis X.env.scope y:=(ok.free _ (cu hfr.1) rfl).elim (fun k=>.inr (.inl k)) (fun k=>.inr (.inr k));obtain⟨w,r,q⟩:=hl i y av e1 e2 aia;refine⟨w,r,.inr ⟨hfr.2,?_⟩⟩;obtain⟨c,h1,h2⟩:=look hfr.1;rcases q with ⟨k,_⟩|⟨_,c',e',z⟩
  ·have k:X.env.scope.names.lookup y=some .local:=k;rcases ok.free _ (cu hfr.1) rfl with k'|k'<;>rw[show X.env.scope.names.lookup y=_ from k']at k<;>cases k
  ·rw[h2]at e';cases e';exact⟨c,h1,z.keeps kp⟩
 ·have e:mD.cells.lookup y=some c:=e;rcases mem e with ⟨h1,_⟩|⟨_,z⟩
  ·obtain⟨w,z⟩:=I.cell y c h1;exact⟨w,z.keeps kp⟩
  ·exact⟨_,z⟩
 ·show H mD.locals=none;rw[hL];exact I.gR.fresh (ao _)
 ·have e:mD.cells.lookup y=some c:=e;rcases mem e with ⟨h1,_⟩|⟨h1,_⟩
  ·exact I.um y c h1
  ·exact I.gR.fresh (uK h1)
 ·exact absurd (show p∈([]:List (Addr×Obj))++[]from hp) (by simp)
theorem ad1{E:aj->au->Prop}{D:Addr}{xs:List V}{y:V}{v:aj}{Q:aj->au->Prop}(I:Inv X pins σ H s)(hD:H D=some (.lst xs))(hz:xs.length<sizeLine)(r:RelV y v)
  (h:∀s',Inv X pins σ (upd H D (.lst (xs++[y]))) s'->Q .none s'):wpAny (model X.prog X.w) X.A (call (.builtin "list.append") [.ref D,v]) Q E s:=by
 obtain⟨hz',dh,n,ri,e⟩:=I.gR D _ hD;have hl:=ri.length;refine append_at (hsz:=by rw[aZ];omega) e fun h' sb Vn=>?_
 refine h {s with heap:=h'} (I.write (t':=s.toks) (by rw[hD];trivial) (.inl rfl) (fun b u hb q=>(sb.2 b hb).trans q) ⟨_,Vn⟩ ⟨by rw[ai];exact hz,dh++[v],n+1,ri.append (.cons r .nil),?_⟩);rw[Vn];simp
def PTs(X:Cx)(ifs:List de)(t:TT):Prop:=
 ∀(pins:List (Addr×Obj)) (s:au) (σ:St) (H:Hp) (Q:Bool->Hp->Prop),Inv X pins σ H s->t σ H Q->
  wpAny (model X.prog X.w) X.A (forIn ifs true fun c r=>if r=true then do let ok<-isTrue c X.env (eval c X.env);pure (uM ok)else pure (uM r)) (TP X pins σ Q) X.xe s
def aeB:TT:=fun _ H Q=>Q true H
theorem jO:PTs X [] aeB:=fun _ _ _ H _ I h=>wpAny_tests_nil ⟨H,I,h⟩
theorem Rx{c:de}{t:TT}(h:PT X c t):PTs X [c] t:=fun pins s σ H Q I hw=>wpAny_tests_one (h pins s σ H Q I hw)
end
theorem Ti{α:Type}{t:Sem α}{Q Q':α->au->Prop}{M:Model}{A:cR}{E:aj->au->Prop}{s:au}(h:wpAny M A t Q (fun _ _=>False) s)(hQ:∀a s,Q a s->Q' a s):wpAny M A t Q' E s:=jV h hQ fun _ _ z=>fU z
theorem Ll{prog:bw}{w:bQ}{A:cR}{R:Result->au->Prop}{s:au}{elt target iter:de}{ifs:List de}{scope:Scope}{pos:sY}{it acc:aj}{env:OG}(I:Nat->au->Prop)
  (turn:∀n s,I n s->wpAny (model prog w) A (pyNext it) (fun r s₁=>match r with
   |none=>R (.ok .next) s₁
   |some v=>wpAny (model prog w) A (letOwnedTupleGo target it v) (fun _ s₁'=>wpAny (model prog w) A (assign target env v) (fun _ s₂=>
     wpAny (model prog w) A (forIn ifs true fun c r=>if r=true then do let ok<-isTrue c env (eval c env);pure (uM ok)else pure (uM r)) (fun ok s₃=>
      if ok=true then wpAny (model prog w) A (eval elt env) (fun x s₄=>
       wpAny (model prog w) A (call (.builtin "list.append") [acc,x]) (fun _ s₅=>∃m,m<n/\I m s₅) (notedBy (model prog w) A env fun e s'=>R (.error e) s') s₄) (notedBy (model prog w) A env fun e s'=>R (.error e) s') s₃
      else ∃m,m<n/\I m s₃) (notedBy (model prog w) A env fun e s'=>R (.error e) s') s₂) (notedBy (model prog w) A env fun e s'=>R (.error e) s') s₁') (notedBy (model prog w) A env fun e s'=>R (.error e) s') s₁) (notedBy (model prog w) A env fun e s'=>R (.error e) s') s)
  (n:Nat)(h:I n s):
  codeAny (model prog w) A (.compLoop (.ListComp elt [⟨target,iter,ifs,0⟩] scope pos) 0 it acc env) R s:=by
 refine codeAny_loop rfl I (fun n s hI=>?_) n h;show wpAny _ A ((compTurn (.ListComp elt [⟨target,iter,ifs,0⟩] scope pos) 0 it acc env).onRaise (fun x=>do noteFrame x env;theTreesLotGoes x)) _ _ s;refine wpAny_noted ?_;rw[compTurn_list];refine ag (Fx (ag (jV (turn n s hI) (fun r s₁ h₁=>?_) fun _ _ h'=>h')));cases r with
 |none=>exact aD h₁
 |some v=>
  refine ag (jV h₁ (fun _ s₁' h₁'=>?_) fun _ _ h'=>h');refine ag (jV h₁' (fun _ s₂ h₂=>ag (jV h₂ (fun ok s₃ h₃=>?_) fun _ _ h'=>h')) fun _ _ h'=>h');cases ok with
  |false=>exact aD ⟨rfl,h₃⟩
  |true=>
   exact ag (ag (jV h₃ (fun x s₄ h₄=>ag (jV h₄ (fun _ s₅ h₅=>aD (aD ⟨rfl,h₅⟩)) fun _ _ h'=>h')) fun _ _ h'=>h'))
section
variable {X:Cx}
def tLc(wi:TI)(g:TG)(tt:TT)(te:TE)(vs:List Nat):TE:=fun σ H Q=>wi σ H fun J H1=>∀D,H1 D=none->∃W:Nat->Nat->Hp->Prop,(∃m,W 0 m (upd H1 D (.lst [])))/\∀i m H,W i m H->(J.stop i H/\Q (.ref D) H)\/(J.go i H/\∃Nx:Hp->Prop,(∀H',Nx H'->∃m',m'<m/\W (i+1) m' H')/\∀x H',J.LP i H x H'->g x (wipe σ vs) H' fun σ2 H2=>wipe σ2 vs=wipe σ vs/\tt σ2 H2 fun b H3=>if b=true then te σ2 H3 fun y H4=>∃acc,H4 D=some (.lst acc)/\acc.length<sizeLine/\Nx (upd H4 D (.lst (acc++[y])))else Nx H3)
theorem RR{pins:List (Addr×Obj)}{s:au}{σ:St}{H:Hp}{Q:VK}{elt tg iter:de}{ifs:List de}{scope:Scope}{own:List (Str×Nat)}{pos pos':sY}{wi:TI}{g:TG}{tt:TT}{te:TE}{use:Option (aj->Sem Unit)}{Qf:aj->au->Prop}
  (hc:X.calm=true)(hN:X.N.Nodup)(I:Inv X pins σ H s)(hi:PI X tg iter wi)(ok:Ow X.N X.env.scope scope own)
  (hg:∀(s:au) (H:Hp) (C:Addr) (cl:List (Str×Addr)) (fp:List Addr),PG (X.Lv s H scope (compEnvC scope cl C X.env) fp) tg g)(ht:∀(s:au) (H:Hp) (C:Addr) (cl:List (Str×Addr)) (fp:List Addr),PTs (X.Lv s H scope (compEnvC scope cl C X.env) fp) ifs tt)
  (he:∀(s:au) (H:Hp) (C:Addr) (cl:List (Str×Addr)) (fp:List Addr),PE (X.Lv s H scope (compEnvC scope cl C X.env) fp) elt te)(hs:∀x,foldedSetIterable iter X.env x=pure x)
  (h:tLc wi g tt te (own.map (·.2)) σ H Q)
  (hRR:∀D C s' m H',Inv X pins σ H' s'->Q (.ref D) H'->s'.heap.Ns C m->HB X pins H' C->compPost (model X.prog X.w) X.A X.xe use Qf (.ref D) C (.ok .next) s'):
  wpAny (model X.prog X.w) X.A (comprehension (.ListComp elt [⟨tg,iter,ifs,0⟩] scope pos) scope X.env pos' (newList []) false (eval iter X.env) use) Qf X.xe s:=by
 have Js:∀y∈scope.names,y.2=.free->∃c,X.env.cells.lookup y.1=some c:=fun y hy e=>by
  rcases ok.free y hy e with k|k
  ·exact I.ok.has _ (.inl k)
  ·exact I.ok.has _ (.inr k)
 refine wpAny_comprehension_free (use:=use) rfl hs (Qy Js) ok.kind (fun y hy e=>by rw[ok.uniq y hy,e])
  (iW (hi pins s σ H _ I h) fun xv s1 hx=>iW hx fun itv s2 h2=>?_)
 obtain⟨it,fp,tn,J,H2,e,I2,T,st2,f2,q⟩:=h2;subst e;refine pR (M8 ?_) (by show 0<=sizeLine;decide);generalize hD:s2.heap.objs.size=D;have hDn:H2 D=none:=I2.gR.fresh (E6 hD);obtain⟨W,⟨m0,w0⟩,turn⟩:=q D hDn;generalize hs3:({s2 with heap:=s2.heap.push {cls:=.type "list",data:=.seq ([]:List aj).toArray}}:au)=s3;have I3:Inv X pins σ (upd H2 D (.lst [])) s3:=by
  rw[<-hs3];refine I2.laid (t':=s2.toks) (fun b o e=>Heap.get?_push_of_some _ e) (E6 hD) ⟨bK _,[],0,.nil,?_⟩;rw[<-hD];exact Heap.get?_push_size _ rfl
 have h3:s3.heap=s2.heap.push {cls:=.type "list",data:=.seq ([]:List aj).toArray}:=by rw[<-hs3]
 have sz:∀b∈fp,b<s2.heap.objs.size:=fun b hb=>by
  obtain⟨o,e,_⟩:=T.obj _ _ st2 b hb;exact Heap.lt_size e
 have f3:∀b∈fp,HB X pins (upd H2 D (.lst [])) b/\b<s3.heap.objs.size:=fun b hb=>by
  have lM:=sz b hb;refine⟨⟨?_,(f2 b hb).2⟩,by rw[h3,Heap.size_push];exact kS lM⟩;rw[cq (by rw[<-hD];exact bE lM)];exact(f2 b hb).1
 have st3:tn 0 s3.heap:=T.keep _ _ _ st2 fun b _ o e=>by rw[h3];exact Heap.get?_push_of_some _ e
 have I4:=Og I3 ok hN f3;have pg:=hg s3 (upd H2 D (.lst [])) s3.heap.objs.size (cellsFrom (s3.heap.objs.size+1) scope.names (gS X.env.cells scope.names [])) fp;have pt:=ht s3 (upd H2 D (.lst [])) s3.heap.objs.size (cellsFrom (s3.heap.objs.size+1) scope.names (gS X.env.cells scope.names [])) fp;have pe:=he s3 (upd H2 D (.lst [])) s3.heap.objs.size (cellsFrom (s3.heap.objs.size+1) scope.names (gS X.env.cells scope.names [])) fp;show codeAny _ _ (.compStart (.ListComp elt [⟨tg,iter,ifs,0⟩] scope pos) 0 (.ref it) (.ref D) (compEnvC scope (cellsFrom (s3.heap.objs.size+1) scope.names (gS X.env.cells scope.names [])) s3.heap.objs.size X.env)) (compPost (model X.prog X.w) X.A X.xe use Qf (.ref D) s3.heap.objs.size) {s3 with heap:=pushCells (s3.heap.push {cls:=.type "dict",data:=.dict #[]}) scope.names};have nfp:∀b∈fp,(upd H2 D (.lst [])) b=none:=fun b hb=>(f3 b hb).1.1
 generalize hce:compEnvC scope (cellsFrom (s3.heap.objs.size+1) scope.names (gS X.env.cells scope.names [])) s3.heap.objs.size X.env=ce at I4 pg pt pe⊢;have cL:ce.locals=s3.heap.objs.size:=by subst hce;rfl
 generalize hH3:upd H2 D (.lst [])=H3 at I3 I4 pg pt pe w0 nfp f3;generalize hs4:({s3 with heap:=pushCells (s3.heap.push {cls:=.type "dict",data:=.dict #[]}) scope.names}:au)=s4 at I4⊢;have st4:tn 0 s4.heap:=T.keep _ _ _ st3 fun b _ o e=>by rw[<-hs4];exact AD _ _ _ _ (Heap.get?_push_of_some _ e)
 have Pb:∀ {σ':St} {H':Hp} {s':au},Inv (X.Lv s3 H3 scope ce fp) [] σ' H' s'->(∀b∈fp,H' b=none)->∀b∈fp,HB (X.Lv s3 H3 scope ce fp) [] H' b:=fun{σ' H' s'} I' hn b hb=>
  ⟨hn b hb,(I'.ok.exf b hb).1,I'.ok.XU b hb,.inl hb,fun x c e=>(I'.ok.exf b hb).2 x c e,fun p hp=>absurd (show p∈([]:List (Addr×Obj))++[]from hp) (by simp)⟩
 have loop:codeAny (model X.prog X.w) X.A (.compLoop (.ListComp elt [⟨tg,iter,ifs,0⟩] scope pos) 0 (.ref it) (.ref D) ce) (compPost (model X.prog X.w) X.A X.xe use Qf (.ref D) s3.heap.objs.size) s4:=by
  refine Ll (fun n s'=>∃i H',Inv (X.Lv s3 H3 scope ce fp) [] (wipe σ (own.map (·.2))) H' s'/\tn i s'.heap/\(∀b∈fp,H' b=none)/\W i n H') ?_ m0 ⟨0,H3,I4,st4,nfp,w0⟩;rintro n s5 ⟨i,H5,I5,st5,n5,w5⟩;rcases turn i n H5 w5 with ⟨stop,qq⟩|⟨go,Nx,hNx,step⟩
  ·have td:=T.done (X.Lv s3 H3 scope ce fp) rfl rfl rfl hc i [] s5 _ H5 (fun _ _=>False) I5 (Pb I5 n5) st5 stop;refine Ti td fun r s6 ⟨hr,I6⟩=>?_
   subst hr;have I7:Inv X pins σ H5 s6:=I3.agq (ch:=fp) I6.os I6.base I6.gR I6.bare fun b hb=>⟨(f3 b hb).1.2.2.2.1,(f3 b hb).1.2.1,(f3 b hb).1.2.2.2.2.1,(f3 b hb).1.2.2.2.2.2⟩
   have nC:H5 s3.heap.objs.size=none:=by
    have z:H5 ce.locals=none:=I6.free;rw[cL]at z;exact z
   obtain⟨m,hn,_⟩:=I6.loc;have hn:s6.heap.Ns ce.locals m:=hn;rw[cL]at hn;exact hRR D s3.heap.objs.size s6 m H5 I7 qq hn (I3.Qq (ao _) nC)
  ·have ti:=T.item (X.Lv s3 H3 scope ce fp) rfl rfl rfl hc i [] s5 _ H5 (fun _ _=>False) I5 (Pb I5 n5) st5 go;refine Ti ti fun r s6 ⟨u,hr,h6⟩=>?_
   subst hr;refine Ti h6 fun _ s7 ⟨x,H7,I7,r7,y7,st7,n7⟩=>?_
   have I7':=I7.pinned (Pb I7 n7) (T.obj _ _ st7);refine Ti (pg _ s7 _ H7 x u _ I7' r7 (step x H7 y7)) fun _ s8 ⟨σ8,H8,I8,hw8,q8⟩=>?_
   refine Ti (pt _ s8 σ8 H8 _ I8 q8) fun b s9 ⟨H9,I9,q9⟩=>?_
   have fin:∀ {s':au} {H':Hp},Inv (X.Lv s3 H3 scope ce fp) ([]++Gu fp s7.heap) σ8 H' s'->Nx H'->∃m,m<n/\∃i H',Inv (X.Lv s3 H3 scope ce fp) [] (wipe σ (own.map (·.2))) H' s'/\tn i s'.heap/\(∀b∈fp,H' b=none)/\W i m H':=fun{s' H'} I' nx=>by
    obtain⟨m',hm,w'⟩:=hNx H' nx;have ae6:∀b∈fp,∀o,s7.heap.get? b=some o->s'.heap.get? b=some o/\H' b=none:=fun b hb o e=>
     let z:=I'.pin (b,o) (fJ _ (fJ _ (Af hb e)))
     ⟨z.1,z.2.1⟩
    have hl:(wipe σ (own.map (·.2))).length=σ8.length:=by rw[<-hw8,wq]
    refine⟨m',hm,i+1,H',(I'.AK (pins:=[])).weak hl (fun j v e=>?_),T.keep _ _ _ st7 fun b hb o e=>(ae6 b hb o e).1,fun b hb=>?_,w'⟩
    ·rw[<-hw8]at e;exact(Cg e).1
    ·obtain⟨o,e,_⟩:=T.obj _ _ st7 b hb;exact(ae6 b hb o e).2
   cases b with
   |false=>
    simp only[Cc,if_false]at q9⊢;exact fin I9 q9
   |true=>
    simp only[if_true]at q9⊢;refine Ti (pe _ s9 σ8 H9 _ I9 q9) fun z s10 ⟨yv,H10,I10,r10,acc,ai0,ah7,nx⟩=>?_
    exact ad1 (X:=X.Lv s3 H3 scope ce fp) I10 ai0 ah7 r10 fun s11 I11=>fin I11 nx
 exact codeAny_compStart_list loop (T.self X.A 0 _ _ _ st4 loop)
theorem si{elt tg iter:de}{ifs:List de}{scope:Scope}{own:List (Str×Nat)}{pos:sY}{wi:TI}{g:TG}{tt:TT}{te:TE}(hc:X.calm=true)(hN:X.N.Nodup)(hi:PI X tg iter wi)(ok:Ow X.N X.env.scope scope own)
  (hg:∀(s:au) (H:Hp) (C:Addr) (cl:List (Str×Addr)) (fp:List Addr),PG (X.Lv s H scope (compEnvC scope cl C X.env) fp) tg g)(ht:∀(s:au) (H:Hp) (C:Addr) (cl:List (Str×Addr)) (fp:List Addr),PTs (X.Lv s H scope (compEnvC scope cl C X.env) fp) ifs tt)
  (he:∀(s:au) (H:Hp) (C:Addr) (cl:List (Str×Addr)) (fp:List Addr),PE (X.Lv s H scope (compEnvC scope cl C X.env) fp) elt te)(hs:∀x,foldedSetIterable iter X.env x=pure x:=by intro _;rfl):
  PE X (.ListComp elt [⟨tg,iter,ifs,0⟩] scope pos) (tLc wi g tt te (own.map (·.2))):=by
 intro pins s σ H Q I h;rw[eval_ListComp];refine RR hc hN I hi ok hg ht he hs h fun D C s' m H' I' q hn f=>⟨m,hn,fun Vp sb=>?_⟩
 obtain⟨f0,f1,f2,f3,f4,f5⟩:=f;exact⟨.ref D,H',I'.turned (t':=s'.toks) (fun b o hb e=>(sb.2 b hb).trans e) f0 f1 f3 f4 f5,rfl,q⟩
theorem Gn{i:Nat}{y:Str}{py:sY}{elt tg iter:de}{ifs:List de}{scope:Scope}{own:List (Str×Nat)}{pos aeR:sY}{wi:TI}{g:TG}{tt:TT}{te:TE}(hc:X.calm=true)(hN:X.N.Nodup)(hy:X.N[i]? =some y)(hyl:X.env.scope.names.lookup y=some .local)
  (hsw:swapsWith (.ListComp elt [⟨tg,iter,ifs,0⟩] scope pos) (some (.Name y py)) aeR.line X.env=pure true)(hi:PI X tg iter wi)(ok:Ow X.N X.env.scope scope own)
  (hg:∀(s:au) (H:Hp) (C:Addr) (cl:List (Str×Addr)) (fp:List Addr),PG (X.Lv s H scope (compEnvC scope cl C X.env) fp) tg g)(ht:∀(s:au) (H:Hp) (C:Addr) (cl:List (Str×Addr)) (fp:List Addr),PTs (X.Lv s H scope (compEnvC scope cl C X.env) fp) ifs tt)
  (he:∀(s:au) (H:Hp) (C:Addr) (cl:List (Str×Addr)) (fp:List Addr),PE (X.Lv s H scope (compEnvC scope cl C X.env) fp) elt te)(hs:∀x,foldedSetIterable iter X.env x=pure x:=by intro _;rfl):
  PS X (.Assign [.Name y py] (.ListComp elt [⟨tg,iter,ifs,0⟩] scope pos) aeR) (VY (tLc wi g tt te (own.map (·.2))) (Jw i)):=by
 intro pins s σ H D I h;rw[exec_Assign_Name_used _ _ _ _ hsw];refine ag (Fx (ag ?_));show wpAny _ X.A (do let _<-comprehension (.ListComp elt [⟨tg,iter,ifs,0⟩] scope pos) scope X.env (firstIterPos [⟨tg,iter,ifs,0⟩] pos) (newList []) false (eval iter X.env) (some (assign (.Name y py) X.env))) _ _ s;have h:tLc wi g tt te (own.map (·.2)) σ H (fun x H1=>Jw i x σ H1 D.nx):=h;refine ag (iW (RR (Qf:=fun _ s'=>SP X pins D .next s') hc hN I hi ok hg ht he hs h fun L C s' m H' I' q hn f=>?_) fun _ s' hq=>aD (aD hq));show wpAny _ _ (assign (.Name y py) X.env (.ref L)) _ _ _;refine wpAny_assign_Name (IF (v:=V.ref L) I' hN hy (.inl hyl) rfl (fun s2 I2 ⟨a,sb,ha⟩=>?_) (.inr hyl));obtain⟨f0,f1,f2,f3,f4,f5⟩:=f;have haC:C≠a:=by
  rcases ha with z|z
  ·rw[z];exact f1
  ·exact fun e=>f4 y a z e.symm
 refine⟨m,hn.sameBut sb haC,fun h3 sb3=>?_⟩;exact⟨_,H',I2.turned (t':=s2.toks) (fun b o hb e=>(sb3.2 b hb).trans e) f0 f1 f3 f4 f5,q⟩
theorem J7{elt:de}{gs:List Comprehension}{scope:Scope}{pos py:sY}{y:Str}{l:Nat}{env:OG}(hk:env.scope.kind=.function)(hy:env.scope.names.lookup y=some .local)(hl:(py.line==pos.line)=true)
  (ha:(scope.names.any fun(n,k)=>n==y&&(k== .local||k== .cell))=false):swapsWith (.ListComp elt gs scope pos) (some (.Name y py)) l env=pure true:=by
 have ky:env.kindOf y=some .local:=hy;have hb:env.blockKind=.function:=by unfold Env.blockKind;rw[hk];rfl
 unfold swapsWith;simp only[hb,ky,ha,Expr.pos,hl];rfl
end
theorem Xe{lo:Int}{n:Nat}{g:TG}{tt:TT}{te:TE}{vs:List Nat}{σ:St}{H1:Hp}{D:Addr}{Qd:Hp->Prop}(Pv:Nat->Hp->Prop)(h0:Pv 0 (upd H1 D (.lst [])))
  (hs:∀i H,i<n->Pv i H->g (.int (lo+i)) (wipe σ vs) H fun σ2 H2=>wipe σ2 vs=wipe σ vs/\tt σ2 H2 fun b H3=>
   if b=true then te σ2 H3 fun y H4=>∃acc,H4 D=some (.lst acc)/\acc.length<sizeLine/\Pv (i+1) (upd H4 D (.lst (acc++[y])))else Pv (i+1) H3)(hd:∀H,Pv n H->Qd H):
  ∃W:Nat->Nat->Hp->Prop,(∃m,W 0 m (upd H1 D (.lst [])))/\∀i m H,W i m H->
   ((Y2 lo n).stop i H/\Qd H)\/((Y2 lo n).go i H/\∃Nx:Hp->Prop,(∀H',Nx H'->∃m',m'<m/\W (i+1) m' H')/\∀x H',(Y2 lo n).LP i H x H'->g x (wipe σ vs) H' fun σ2 H2=>wipe σ2 vs=wipe σ vs/\tt σ2 H2 fun b H3=>
    if b=true then te σ2 H3 fun y H4=>∃acc,H4 D=some (.lst acc)/\acc.length<sizeLine/\Nx (upd H4 D (.lst (acc++[y])))else Nx H3):=by
 refine⟨fun i m H=>m=n-i/\i<=n/\Pv i H,⟨n,by simp,bK _,h0⟩,?_⟩;rintro i m H ⟨rfl,hi,p⟩;by_cases lM:i<n
 ·refine .inr ⟨lM,Pv (i+1),fun H' p'=>⟨n-(i+1),by omega,rfl,lM,p'⟩,fun x H' y=>?_⟩;obtain⟨e,y⟩:=y;subst e y;exact hs i _ lM p
 ·have e:i=n:=by omega
  subst e;exact .inl ⟨ao _,hd H p⟩
theorem k5{K:aq}{a:Addr}{xs:List V}{g:TG}{tt:TT}{te:TE}{vs:List Nat}{σ:St}{H1:Hp}{D:Addr}{Qd:Hp->Prop}(Pv:Nat->Hp->Prop)(h0:Pv 0 (upd H1 D (.lst [])))(hl:∀i H,i<=xs.length->Pv i H->bW K H a xs)
  (hs:∀i x H,xs[i]? =some x->Pv i H->g x (wipe σ vs) H fun σ2 H2=>wipe σ2 vs=wipe σ vs/\tt σ2 H2 fun b H3=>
   if b=true then te σ2 H3 fun y H4=>∃acc,H4 D=some (.lst acc)/\acc.length<sizeLine/\Pv (i+1) (upd H4 D (.lst (acc++[y])))else Pv (i+1) H3)(hd:∀H,Pv xs.length H->Qd H):
  ∃W:Nat->Nat->Hp->Prop,(∃m,W 0 m (upd H1 D (.lst [])))/\∀i m H,W i m H->
   ((Itl K a).stop i H/\Qd H)\/((Itl K a).go i H/\∃Nx:Hp->Prop,(∀H',Nx H'->∃m',m'<m/\W (i+1) m' H')/\∀x H',(Itl K a).LP i H x H'->g x (wipe σ vs) H' fun σ2 H2=>wipe σ2 vs=wipe σ vs/\tt σ2 H2 fun b H3=>
    if b=true then te σ2 H3 fun y H4=>∃acc,H4 D=some (.lst acc)/\acc.length<sizeLine/\Nx (upd H4 D (.lst (acc++[y])))else Nx H3):=by
 refine⟨fun i m H=>m=xs.length-i/\i<=xs.length/\Pv i H,⟨xs.length,by simp,bK _,h0⟩,?_⟩;rintro i m H ⟨rfl,hi,p⟩;have q:=hl i H hi p;by_cases lM:i<xs.length
 ·refine .inr ⟨⟨xs,xs[i],q,by simp[lM]⟩,Pv (i+1),fun H' p'=>⟨xs.length-(i+1),by omega,rfl,lM,p'⟩,fun x H' y=>?_⟩;obtain⟨e,y⟩:=y;subst e;exact hs i x _ (y xs q) p
 ·have e:i=xs.length:=by omega
  subst e;exact .inl ⟨⟨xs,q,ao _⟩,hd H p⟩
def ags(N:List Str)(sc scope:Scope)(own:List (Str×Nat)):Bool:=
 (match scope.kind with|.function=>true|_=>false)&&(scope.names.all fun y=>decide (scope.names.lookup y.1=some y.2))&&(own.all fun p=>decide (N[p.2]? =some p.1))&&
  (scope.names.all fun y=>match y.2 with
   |.free=>(match sc.names.lookup y.1 with|some .cell=>true|some .free=>true|_=>false)
   |.local=>decide (y.1∈own.map (·.1))||decide (y.1∉N)
   |.cell=>decide (y.1∈own.map (·.1))||decide (y.1∉N)
   |_=>true)
theorem gZ{N:List Str}{sc scope:Scope}{own:List (Str×Nat)}(h:ags N sc scope own=true):Ow N sc scope own:=by
 unfold ags at h;simp only[aE,bD,decide_eq_true_eq]at h;obtain⟨⟨⟨h1,h2⟩,h3⟩,h4⟩:=h;refine⟨?_,h2,h3,fun y hy e=>?_,fun y hy e=>?_⟩
 ·split at h1
  ·assumption
  ·cases h1
 ·have q:=h4 y hy;simp only[e]at q;split at q<;>first|exact .inl (by assumption)|exact .inr (by assumption)|cases q
 ·have q:=h4 y hy;rcases e with e|e<;>(simp only[e,HS,decide_eq_true_eq]at q;exact q)
section
variable {prog:bw} {w:bQ} {A:cR} {R:Result->au->Prop} {s:au} {elt t0 i0 t1 i1:de} {amf ame:List de} {scope:Scope} {pos:sY} {it acc:aj} {env:OG}
end
section
variable {X:Cx}
end
section
variable {κ:Type} [DecidableEq κ]
def p9(bx:List (κ×V))(k:κ):Option V:=(bx.find? fun kv=>decide (kv.1=k)).map (·.2)
def putK(bx:List (κ×V))(k:κ)(v:V):List (κ×V):=
 if (bx.any fun kv=>decide (kv.1=k))=true then bx.map (fun kv=>if kv.1=k then(kv.1,v)else kv)else bx++[(k,v)]
theorem FL{p:κ×V}{r:List (κ×V)}{k:κ}(e:p.1=k):p9 (p::r) k=some p.2:=by simp[p9,iq,e]
theorem FN{p:κ×V}{r:List (κ×V)}{k:κ}(e:¬p.1=k):p9 (p::r) k=p9 r k:=by simp[p9,iq,e]
theorem wt(k:κ):∀bx:List (κ×V),(bx.any fun kv=>decide (kv.1=k))=(p9 bx k).isSome
 |[]=>rfl
 |p::r=>by
  rw[iR];by_cases e:p.1=k
  ·simp only[FL e,decide_eq_true e,Bool.true_or,rJ]
  ·rw[FN e,decide_eq_false e,Bool.false_or];exact wt k r
theorem xn(bx:List (κ×V))(k:κ)(v:V):(putK bx k v).length<=bx.length+1:=by
 unfold putK;split
 ·rw[ae];omega
 ·rw[ai,az,kn];omega
theorem WC{bx:List (κ×V)}{k:κ}(v:V)(h:p9 bx k=none):putK bx k v=bx++[(k,v)]:=by
 unfold putK;rw[wt,h];exact if_neg (by decide)
theorem yU.Us{o:Option V}{u:Option aj}(r:yU o u):o.isSome=u.isSome:=by
 cases o with
 |none=>cases u with
  |none=>rfl
  |some _=>exact(show False from r).elim
 |some _=>cases u with
  |none=>exact(show False from r).elim
  |some _=>rfl
theorem yU.getD{o:Option V}{u:Option aj}{d:V}{d':aj}(r:yU o u)(rd:RelV d d'):RelV (o.getD d) (u.getD d'):=by
 cases o with
 |none=>cases u with
  |none=>exact rd
  |some _=>exact(show False from r).elim
 |some _=>cases u with
  |none=>exact(show False from r).elim
  |some _=>exact r
theorem KV.val{bx:List (κ×V)}{vs:List (κ×aj)}(r:KV bx vs)(k:κ):yU (p9 bx k) (valueAt vs k):=by
 unfold KV at r;induction r with
 |nil=>exact sW
 | @cons p q ps qs h t ih=>
  obtain⟨h1,h2⟩:=h;by_cases e:p.1=k
  ·have e':q.1=k:=h1.symm.trans e;have b:valueAt (q::qs) k=some q.2:=by simp[valueAt,iq,e']
   rw[FL e,b];exact h2
  ·have e':¬q.1=k:=fun z=>e (h1.trans z)
   have b:valueAt (q::qs) k=valueAt qs k:=by simp[valueAt,iq,e']
   rw[FN e,b];exact ih
theorem KV.any{bx:List (κ×V)}{vs:List (κ×aj)}(r:KV bx vs)(k:κ):(bx.any fun kv=>decide (kv.1=k))=vs.any fun kv=>decide (kv.1=k):=by
 unfold KV at r;induction r with
 |nil=>rfl
 |cons h t ih=>rw[iR,iR,ih,h.1]
theorem KV.acp{bx:List (κ×V)}{vs:List (κ×aj)}(r:KV bx vs)(k:κ){y:V}{u:aj}(ry:RelV y u):
  KV (bx.map fun kv=>if kv.1=k then(kv.1,y)else kv) (vs.map fun kv=>if kv.1=k then(kv.1,u)else kv):=by
 unfold KV at r⊢;induction r with
 |nil=>exact .nil
 | @cons p q ps qs h t ih=>
  rw[bo,bo];refine .cons ?_ ih;obtain⟨h1,h2⟩:=h;by_cases e:p.1=k
  ·rw[if_pos e,if_pos (h1.symm.trans e)];exact⟨h1,ry⟩
  ·rw[if_neg e,if_neg (fun z=>e (h1.trans z))];exact⟨h1,h2⟩
theorem KV.put{bx:List (κ×V)}{vs:List (κ×aj)}(r:KV bx vs)(k:κ){y:V}{u:aj}(ry:RelV y u):KV (putK bx k y) (stored vs k u):=by
 unfold putK stored;rw[r.any k];by_cases e:(vs.any fun kv=>decide (kv.1=k))=true
 ·rw[if_pos e,if_pos e];exact r.acp k ry
 ·rw[if_neg e,if_neg e];exact Paired.snoc r ⟨rfl,ry⟩
theorem KV.length{bx:List (κ×V)}{vs:List (κ×aj)}(r:KV bx vs):bx.length=vs.length:=Paired.length r
end
theorem RV{P:bw}{w:bQ}{k:Key}{u:aj}(r:RelV (kV k) u):(gQ P w).is k u=true:=by
 cases k with
 |inl i=>obtain⟨t,e⟩:=(show ∃t,u=lB i t from r);subst e;exact Nc P w i t
 |inr x=>obtain⟨t,e⟩:=(show ∃t,u=L0 x t from r);subst e;exact Nb P w x t
theorem Jp{P:bw}{w:bQ}:∀ {ks:List Key} {us:List aj},cZ (ks.map kV) us->ItemsAre (gQ P w) ks us
 |[],_,r=>by rw[oh]at r;cases r;exact .nil
 |k::ks,_,r=>by
  rw[bo]at r;cases r with
  |cons h t=>exact .cons (RV h) (Jp t)
abbrev KT(H:Hp):List (List Key×V)->List (List Key×Addr×aj)->Prop:=Paired fun p q=>p.1=q.1/\H q.2.1=some (.tup (p.1.map kV))/\RelV p.2 q.2.2
theorem KT.val{H:Hp}{bx:List (List Key×V)}{xs:List (List Key×Addr×aj)}(r:KT H bx xs)(k:List Key):yU (p9 bx k) ((atKey xs k).map (·.2)):=by
 induction r with
 |nil=>exact sW
 | @cons p q ps qs h t ih=>
  obtain⟨h1,_,h2⟩:=h;by_cases e:p.1=k
  ·have e':q.1=k:=h1.symm.trans e;have b:atKey (q::qs) k=some q.2:=by simp[atKey,iq,e']
   rw[FL e,b];exact h2
  ·have e':¬q.1=k:=fun z=>e (h1.trans z)
   have b:atKey (q::qs) k=atKey qs k:=by simp[atKey,iq,e']
   rw[FN e,b];exact ih
theorem KT.acp{H:Hp}{bx:List (List Key×V)}{xs:List (List Key×Addr×aj)}(r:KT H bx xs)(k:List Key){y:V}{u:aj}(ry:RelV y u):
  KT H (bx.map fun kv=>if kv.1=k then(kv.1,y)else kv) (xs.map (putAt k u)):=by
 induction r with
 |nil=>exact .nil
 | @cons p q ps qs h t ih=>
  rw[bo,bo];refine .cons ?_ ih;obtain⟨h1,h2,h3⟩:=h;unfold putAt;by_cases e:p.1=k
  ·rw[if_pos e,if_pos (h1.symm.trans e)];exact⟨h1,h2,ry⟩
  ·rw[if_neg e,if_neg (fun z=>e (h1.trans z))];exact⟨h1,h2,h3⟩
theorem KT.put{H:Hp}{bx:List (List Key×V)}{xs:List (List Key×Addr×aj)}(r:KT H bx xs)(k:List Key){b:Addr}{y:V}{u:aj}(hb:H b=some (.tup (k.map kV)))(ry:RelV y u):
  KT H (putK bx k y) (storedH xs k b u):=by
 have e:(bx.any fun kv=>decide (kv.1=k))=(atKey xs k).isSome:=by
  rw[wt,(r.val k).Us,Option.isSome_map]
 unfold putK storedH;rw[e];by_cases q:(atKey xs k).isSome=true
 ·rw[if_pos q,if_pos q];exact r.acp k ry
 ·rw[if_neg q,if_neg q];exact Paired.snoc r ⟨rfl,hb,ry⟩
theorem KT.keeps{H H':Hp}{bx:List (List Key×V)}{xs:List (List Key×Addr×aj)}(r:KT H bx xs)(ht:∀b ys,H b=some (.tup ys)->H' b=some (.tup ys)):KT H' bx xs:=
 Paired.Xa r fun _ _ z=>⟨z.1,ht _ _ z.2.1,z.2.2⟩
section
variable {P:bw} {w:bQ} {H:Hp} {h:Heap} {a:Addr}
theorem abc{u:HO}(ok:yd P w H h)(e:Rd H a u):i9 P w H h a u:=e.ok ok
theorem X0{bx:List (Key×V)}(ok:yd P w H h)(e:Rd H a (.dK bx)):bx.length<=sizeLine/\(a==sysModules)=false/\∃vs,KV bx vs/\h.DictOf (gQ P w) a vs:=
 show i9 P w H h a (.dK bx)from abc ok e
theorem abP{bx:List (Key×V)}(ok:yd P w H h)(e:H a=some (.dK bx)):bx.length<=sizeLine/\(a==sysModules)=false/\∃vs,KV bx vs/\h.DictOf (gQ P w) a vs:=X0 ok (.inl e)
theorem Qa{ks:List Key}(ok:yd P w H h)(e:H a=some (.tup (ks.map kV))):(tupleKind (gQ P w)).is h ks a:=by
 obtain⟨_,dh,r,o,h1,h2,n,h3⟩:=(show i9 P w H h a (.tup (ks.map kV))from ok a _ e);exact⟨o,dh.toArray,n,h1,h2,h3,by simpa using Jp r⟩
theorem XZ{bx:List (List Key×V)}(ok:yd P w H h)(e:Rd H a (.dT bx)):bx.length<=sizeLine/\(a==sysModules)=false/\
  ∃xs,KT H bx xs/\h.DictOfH (tupleKind (gQ P w)) a xs:=by
 obtain⟨z,y,xs,r,o,es,ep,h1,h2,h3,h4,h5⟩:=(show i9 P w H h a (.dT bx)from abc ok e);refine⟨z,y,xs,r,o,es,ep,h1,h2,h3,h4,fun x hx=>?_,h5⟩;have all:∀ {l:List (List Key×V)} {m:List (List Key×Addr×aj)},KT H l m->∀x∈m,(tupleKind (gQ P w)).is h x.1 x.2.1:=by
  intro l m q;induction q with
  |nil=>intro x hx;exact nomatch hx
  | @cons p q ps qs hq t ih=>
   intro x hx;rcases aM.mp hx with e|hx
   ·subst e;exact Qa ok (by rw[<-hq.1];exact hq.2.1)
   ·exact ih x hx
 exact all r x hx
theorem agl{bx:List (List Key×V)}(ok:yd P w H h)(e:H a=some (.dT bx)):bx.length<=sizeLine/\(a==sysModules)=false/\
  ∃xs,KT H bx xs/\h.DictOfH (tupleKind (gQ P w)) a xs:=XZ ok (.inl e)
end
def Vb(H:Hp)(a:Addr)(y:V)(r:Option V):Prop:=(∃bx k,Rd H a (.dK bx)/\y=kV k/\r=p9 bx k)\/E3 fun bx k b=>A4 (Rd H a (.dT bx)) (y=.ref b) (H b=some (.tup (k.map kV))) (r=p9 bx k)
def Ov(H:Hp)(a:Addr)(y v:V)(H':Hp):Prop:=(∃bx k,H a=some (.dK bx)/\y=kV k/\bx.length<sizeLine/\H'=upd H a (.dK (putK bx k v)))\/E3 fun bx k b=>A5 (H a=some (.dT bx)) (y=.ref b) (H b=some (.tup (k.map kV))) (bx.length<sizeLine) (H'=upd H a (.dT (putK bx k v)))
theorem Vb.k{H:Hp}{a:Addr}{bx:List (Key×V)}{k:Key}(e:H a=some (.dK bx)):Vb H a (kV k) (p9 bx k):=.inl ⟨bx,k,.inl e,rfl,rfl⟩
theorem Ov.k{H:Hp}{a:Addr}{bx:List (Key×V)}{k:Key}{v:V}(e:H a=some (.dK bx))(hl:bx.length<sizeLine):Ov H a (kV k) v (upd H a (.dK (putK bx k v))):=.inl ⟨bx,k,e,rfl,hl,rfl⟩
section
variable {X:Cx} {pins:List (Addr×Obj)} {σ:St} {H:Hp} {s:au} {a:Addr} {y v:V} {u r:aj} {o:Option V} {A:cR} {E:aj->au->Prop}
theorem Inv.big(I:Inv X pins σ H s):sysModules<s.heap.objs.size:=by
 have h:mainGlobals<s.heap.objs.size:=(I.mod.glob.keeps I.bk).lt;exact E1 (by decide) h
theorem Lk{h':Heap}{t':Nat}{ob:HO}(I:Inv X pins σ H s)(mu:Mut (H a))(hs:Heap.SameBut a s.heap h')(he:∃q,h'.get? a=some q)(new:i9 X.prog X.w (upd H a ob) h' a ob):
  Inv X pins σ (upd H a ob) {s with heap:=h',toks:=t'}:=
 I.write (x:=a) (e:=a) mu (.inl rfl) (fun b q hb z=>(hs.2 b hb).trans z) he new
theorem X1{P:bw}{w:bQ}{H':Hp}{h':Heap}{bx:List (Key×V)}{vs:List (Key×aj)}(z:bx.length<=sizeLine)(hd:(a==sysModules)=false)(rel:KV bx vs)(dd:h'.DictOf (gQ P w) a vs):
  i9 P w H' h' a (.dK bx):=⟨z,hd,vs,rel,dd⟩
theorem UO{H':Hp}{Q:Unit->au->Prop}(hu:A.units+1<cLine)(I:Inv X pins σ H s)(g:Ov H a y v H')(ry:RelV y u)(rv:RelV v r)(h:∀s',Inv X pins σ H' s'->Q () s'):
  wpAny (model X.prog X.w) A (setItem (.ref a) u r) Q E s:=by
 rcases g with ⟨bx,k,e,ey,l,eH⟩|⟨bx,k,b,e,ey,eb,l,eH⟩
 ·subst ey eH;obtain⟨z,hd,vs,rel,dd⟩:=abP I.gR e;have hz:vs.length<=sizeLine:=by rw[<-rel.length];exact z
  have hl:(putK bx k v).length<=sizeLine:=by have:=xn bx k v;omega
  refine wpAny_setItem_pairs (hsz:=hz) (RV ry) dd fun h' dd' hs=>h _ ?_
  have he:∃q,h'.get? a=some q:=let ⟨q,_,_,hq,_⟩:=dd';⟨q,hq⟩;exact Lk I (by rw[e];exact sW) hs he (X1 hl hd (rel.put k rv) dd')
 ·subst ey eH;cases (show u=eQ b from ry);obtain⟨z,hd,xs,rel,dd⟩:=agl I.gR e;have hz:xs.length<=sizeLine:=by rw[<-Paired.length rel];exact z
  have hl:(putK bx k v).length<=sizeLine:=by have:=xn bx k v;omega
  refine wpAny_setItem_heap (hsz:=hz) (tupleKind_room_in1 hu) (Qa I.gR eb) dd fun h' dd' hs=>h _ ?_
  obtain⟨q,es,ep,hq,h2,h3,h4,_,h5⟩:=dd';refine Lk I (by rw[e];exact sW) hs ⟨q,hq⟩ ⟨hl,hd,_,(rel.put k eb rv).keeps fun c ys ec=>?_,q,es,ep,hq,h2,h3,h4,h5⟩;rw[cq (uj ec e (fun z=>nomatch z))];exact ec
end
section
variable {X:Cx} {pins:List (Addr×Obj)} {σ:St} {H:Hp} {s:au} {a:Addr} {bx:List (Key×V)} {k:Key} {u:aj} {A:cR} {E:aj->au->Prop}
end
def abb(td ty tv:TE):TS:=fun D σ H=>tv σ H fun v H1=>td σ H1 fun x H2=>ty σ H2 fun y H3=>E2 fun a H4=>A3 (x=.ref a) (Ov H3 a y v H4) (D.nx σ H4)
section
variable {X:Cx} {o i e value:de} {pos pos' zK:sY} {td ty tv:TE}
theorem Rz(hu:X.A.units+1<cLine)(ho:PE X o td)(hi:PE X i ty)(hv:PE X value tv)(hs:swapsWith value (some (.Subscript o i pos')) pos.line X.env=pure false):
  PS X (.Assign [.Subscript o i pos'] value pos) (abb td ty tv):=by
 intro pins s σ H D I h;refine wpAny_Assign_Subscript (iW (hv pins s σ H _ I h) fun r s1 ⟨v,H1,I1,rv,q1⟩=>iW (ho pins s1 σ H1 _ I1 q1) fun u s2 ⟨x,H2,I2,rx,q2⟩=>iW (hi pins s2 σ H2 _ I2 q2) fun iv s3 ⟨y,H3,I3,ry,a,H4,ex,g,q3⟩=>?_) hs;subst ex;obtain rfl:u=eQ a:=rx;exact UO hu I3 g ry rv fun s4 I4=>⟨σ,H4,I4,q3⟩
end
theorem X2{P:bw}{w:bQ}{H:Hp}(h:Heap)(hb:sysModules<h.objs.size):i9 P w H (h.push {cls:=.type "dict",data:=.dict #[]}) h.objs.size (.dK []):=
 ⟨bK _,beq_eq_false_iff_ne.mpr (bT (bE hb)),[],.nil,Heap.DictOf.new h⟩
def VU:TE:=fun _ H Q=>∀p,H p=none->Q (.ref p) (upd H p (.dK []))
section
variable {X:Cx} {pos:sY}
theorem GA:PE X (.Dict [] [] pos) VU:=fun pins s σ H Q I h=>
 wpAny_Dict_empty ⟨.ref s.heap.objs.size,_,I.laid (a:=s.heap.objs.size) (o:=.dK []) (t':=s.toks) (fun _ _ q=>Heap.get?_push_of_some _ q) (ao _) (X2 s.heap I.big),rfl,h _ (I.gR.fresh (ao _))⟩
end
structure M2(X:Cx)(o:de)(m:Str)(apos:sY)(e f:de)(mq:sY):Prop where
 base:attributeBase o m X.env (eval o X.env)=eval o X.env
 few:((backTo mq (starEach [e,f] X.env)).all (fun x=>!x.1)&&(backToKw mq (keywordEach [] X.env)).all (fun x=>x.1.isSome)
  &&decide (([e,f]:List de).length+([]:List Ej).length+(if ([]:List Ej).isEmpty then 0 else 1)<30))=true
 line:(apos.endLine==mq.line)=true
 trees:backTo mq (starEach [e,f] X.env)=[(false,eval e X.env),(false,eval f X.env)]
def IsD(H:Hp)(a:Addr):Prop:=(∃bx,Rd H a (.dK bx))\/∃bx,Rd H a (.dT bx)
theorem Xi{X:Cx}{pins:List (Addr×Obj)}{σ:St}{H:Hp}{s:au}{a:Addr}(I:Inv X pins σ H s)(d:IsD H a):
  s.TypeIs (.ref a) "dict" /\(∀b,eQ a=.ref b->∃ob,s.heap.get? b=some ob/\ob.dict=none)/\(a==sysModules)=false:=by
 rcases d with ⟨bx,e⟩|⟨bx,e⟩
 ·obtain⟨_,hd,vs,_,dd⟩:=X0 I.gR e;refine⟨dd.typeIs,fun b q=>?_,hd⟩;cases q;obtain⟨ob,_,_,h1,h2,_⟩:=dd;exact⟨ob,h1,h2.2.1⟩
 ·obtain⟨_,hd,xs,_,dd⟩:=XZ I.gR e;refine⟨dd.typeIs,fun b q=>?_,hd⟩;cases q;obtain⟨ob,_,_,h1,h2,_⟩:=dd;exact⟨ob,h1,h2.2.1⟩
section
variable {X:Cx} {pins:List (Addr×Obj)} {σ:St} {H:Hp} {s:au} {a:Addr} {y d:V} {u r:aj} {o:Option V} {A:cR} {E:aj->au->Prop}
theorem adO{Q:aj->au->Prop}(hu:A.units+1<cLine)(I:Inv X pins σ H s)(g:Vb H a y o)(ry:RelV y u)(rd:RelV d r)(h:∀w' s',Inv X pins σ H s'->RelV (o.getD d) w'->Q w' s'):
  wpAny (model X.prog X.w) A (call (.builtin "dict.get") [.ref a,u,r]) Q E s:=by
 rcases g with ⟨bx,k,e,ey,l⟩|⟨bx,k,b,e,ey,eb,l⟩
 ·subst ey;obtain⟨z,hd,vs,rel,dd⟩:=X0 I.gR e;refine YC vY dd.typeIs LJ (JU _ _ _) (meets_dict_get_default (gQ X.prog X.w) a (RV ry) hd r) ⟨_,dd.mapOf,h _ _ (I.tok _) ?_⟩;rw[l];exact(rel.val k).getD rd
 ·subst ey;cases (show u=eQ b from ry);obtain⟨z,hd,xs,rel,dd⟩:=XZ I.gR e;refine YC vY dd.typeIs LJ (JU _ _ _) (meetsH_dict_get_default (tupleKind (gQ X.prog X.w)) a b hd r) ⟨tupleKind_room_in1 hu,k,xs,Qa I.gR eb,dd,h _ _ (I.tok _) ?_⟩;rw[l];exact(rel.val k).getD rd
end
def VV(td ty tx:TE):TE:=fun σ H Q=>td σ H fun x H1=>∃a,A3 (x=.ref a) (IsD H1 a) (ty σ H1 fun y H2=>tx σ H2 fun z H3=>∃o,Vb H3 a y o/\Q (o.getD z) H3)
section
variable {X:Cx} {o e f:de} {apos mq:sY} {td ty tx:TE}
theorem WJ(hu:X.A.units+1<cLine)(ho:PE X o td)(he:PE X e ty)(hf:PE X f tx)(m:M2 X o "get" apos e f mq):PE X (.Call (.Attribute o "get" apos) [e,f] [] mq) (VV td ty tx):=by
 intro pins s σ H Q I h;refine wd m.base m.few m.line JT vY PySem.F.type_dict_get (iW (ho pins s σ H _ I h) fun u s1 ⟨x,H1,I1,rx,a,ex,d,q1⟩=>?_);subst ex;obtain rfl:u=eQ a:=rx;obtain⟨t1,t2,_⟩:=Xi I1 d;refine⟨t1,t2,?_⟩;rw[m.trees];refine vZ rfl (yZ (mF (iW (he pins s1 σ H1 _ I1 q1) fun iv s2 ⟨y,H2,I2,ry,q2⟩=>
  mF (iW (hf pins s2 σ H2 _ I2 q2) fun fv s3 ⟨z,H3,I3,rz,ov,g,q3⟩=>Dh ?_))))
 exact adO hu I3 g ry rz fun w' s4 I4 rw'=>⟨_,H3,I4,rw',q3⟩
end
section
variable {X:Cx} {pins:List (Addr×Obj)} {σ:St} {H:Hp} {s:au} {a:Addr} {bx:List (Key×V)} {A:cR} {E:aj->au->Prop}
end
section
variable {X:Cx} {pins:List (Addr×Obj)} {σ:St} {H:Hp} {s:au} {a:Addr} {y:V} {u:aj} {A:cR} {E:aj->au->Prop}
end
section
variable {prog:bw} {w:bQ} {A:cR} {E:aj->au->Prop}
end
section
variable {X:Cx}
end
section
variable {X:Cx} {pins:List (Addr×Obj)} {σ:St} {H:Hp} {s:au} {h':Heap}
theorem Inv.Ci{t':Nat}{ch:List Addr}{T:Addr}{ob:HO}(I:Inv X pins σ H s)(k:∀b o,b∉ch->s.heap.get? b=some o->h'.get? b=some o)(hf:∀b∈ch,HB X pins H b)(hT:s.heap.objs.size<=T)
  (new:i9 X.prog X.w (upd H T ob) h' T ob):Inv X pins σ (upd H T ob) {s with heap:=h',toks:=t'}:=by
 have hn:H T=none:=I.gR.fresh hT;have nit:∀b u,H b=some u->b∉ch:=fun b u e z=>by
  have q:=(hf b z).1;rw[q]at e;cases e
 refine I.step (g':=s.gens) (d':=s.drawn) (ch:=ch) (fun b hb=>⟨(hf b hb).2.2.2.1,(hf b hb).2.1,(hf b hb).2.2.2.2.1,(hf b hb).2.2.2.2.2⟩) (fun b o _ _ hc e _=>k b o hc e) (fun b o _ _ hc e _=>⟨o.slots,k b o hc e⟩)
  (fun b o _ e n=>?_) (fun b o hc e=>⟨o,k b o hc e⟩) (fun b xs e=>?_) (fun b o u e=>?_) (fun b ps e=>⟨#[],?_⟩) (fun m hm=>?_) (fun b u e=>?_) I.bare
 ·rw[cq (bE (bV (Heap.lt_size e) hT))];exact n
 ·rw[cq (aR e hn)];exact e
 ·rw[cq (aR e hn)];exact e
 ·rw[cq (aR e hn),e];simp
 ·obtain⟨o,es,ep,ho,r⟩:=hm;exact⟨o,es,ep,k _ o (fun z=>(hf _ z).2.1 rfl) ho,r⟩
 ·by_cases hb:b=T
  ·subst hb;rw[ak]at e;cases e;exact new
  ·rw[cq hb]at e;refine(I.gR b u e).FW (fun c v hc q=>k c v ?_ q) (fun c q=>by rw[cq (aR q hn)];exact q) fun c xs q=>by rw[cq (aR q hn)];exact q
   rcases hc with z|z
   ·rw[z];exact nit b u e
   ·exact nit c _ z
theorem Inv.lock{d:Addr}{u:HO}(I:Inv X pins σ H s)(h:H d=some u)(mu:Mut (some u)):∃od,Inv X pins σ (upd H d (.nu od u)) s:=by
 have x:=I.gR d u h;have ex:∃od,s.heap.get? d=some od:=by
  cases u with
  |lst xs=>obtain⟨_,_,_,_,e⟩:=x;exact⟨_,e⟩
  |dK bx=>obtain⟨_,_,_,_,o,_,_,e,_⟩:=x;exact⟨o,e⟩
  |dT bx=>obtain⟨_,_,_,_,o,_,_,e,_⟩:=x;exact⟨o,e⟩
  |set S n=>obtain⟨o,_,_,_,e,_⟩:=x;exact⟨o,e⟩
  |ins C dx fs=>obtain⟨_,_,_,e,_⟩:=x;exact⟨_,e⟩
  |ext φ=>obtain⟨_,⟨_,e⟩,_⟩:=x;exact⟨_,e⟩
  |_=>exact fU mu
 obtain⟨od,e⟩:=ex;have new:i9 X.prog X.w (upd H d (.nu od u)) s.heap d (.nu od u):=by
  refine⟨e,x.FW (fun b v _ q=>q) (fun b q=>?_) fun b xs q=>?_⟩
  ·rw[cq (fun z=>by rw[z,h]at q;cases q;exact mu)];exact q
  ·rw[cq (fun z=>by rw[z,h]at q;cases q;exact mu)];exact q
 exact⟨od,I.write (x:=d) (e:=d) (t':=s.toks) (h':=s.heap) (by rw[h];exact mu) (.inl rfl) (fun b v _ q=>q) ⟨od,e⟩ new⟩
theorem Inv.RM{d:Addr}{u:HO}(I:Inv X pins σ H s)(h:H d=some u)(mu:Mut (some u)):∀o' u',X.H_0 d≠some (.nu o' u'):=fun o' u' e=>by
 have q:=I.base.Hc d o' u' e;rw[h]at q;cases q;exact mu
theorem Inv.unlock{d:Addr}{od:Obj}{u:HO}(I:Inv X pins σ H s)(h:H d=some (.nu od u))(hn:∀o' u',X.H_0 d≠some (.nu o' u')):Inv X pins σ (upd H d u) s:=by
 have neH:∀b o,H b=some o->(∀o' u',o≠ .nu o' u')->b≠d:=fun b o e j1 z=>by
  rw[z,h]at e;cases e;exact j1 _ _ rfl
 have neN:∀b,H b=none->b≠d:=fun b e z=>by rw[z,h]at e;cases e
 refine⟨I.ok,I.os,I.bare,⟨I.base.keep,I.base.slot,fun b o e n hx=>?_,I.base.there,fun b xs e=>?_,fun b o x e=>?_,fun b ps e=>?_⟩,I.loc,I.cell,?_,fun x c e=>?_,fun p hp=>?_,fun b o e=>?_,I.len⟩
 ·rw[cq (neN b (I.base.free b o e n hx))];exact I.base.free b o e n hx
 ·have q:=I.base.J5 b xs e;rw[cq (neH b _ q (fun _ _ z=>nomatch z))];exact q
 ·have q:=I.base.Hc b o x e;rw[cq (fun z=>by rw[z]at e;exact hn _ _ e)];exact q
 ·obtain⟨m,q⟩:=I.base.J6 b ps e;exact⟨m,by rw[cq (neH b _ q (fun _ _ z=>nomatch z))];exact q⟩
 ·rw[cq (neN _ I.free)];exact I.free
 ·rw[cq (neN c (I.um x c e))];exact I.um x c e
 ·obtain⟨e,n,r⟩:=I.pin p hp;exact⟨e,by rw[cq (neN _ n)];exact n,r⟩
 ·by_cases hb:b=d
  ·rw[hb,ak]at e;cases e;rw[hb];obtain⟨_,x⟩:=I.gR d _ h;exact x.FW (fun c v _ q=>q) (fun c q=>by rw[cq (neH c _ q (fun _ _ z=>nomatch z))];exact q) fun c xs q=>by rw[cq (neH c _ q (fun _ _ z=>nomatch z))];exact q
  ·rw[cq hb]at e;exact(I.gR b o e).FW (fun c v _ q=>q) (fun c q=>by rw[cq (neH c _ q (fun _ _ z=>nomatch z))];exact q) fun c xs q=>by rw[cq (neH c _ q (fun _ _ z=>nomatch z))];exact q
end
def aa3(t:TS):TS:=fun D σ H=>E2 fun d u=>A3 (H d=some u) (Mut (some u)) (∀od,t ⟨fun σ' H'=>H' d=some (.nu od u)/\D.nx σ' (upd H' d u),fun v H'=>H' d=some (.nu od u)/\D.rt v (upd H' d u),fun σ' H'=>H' d=some (.nu od u)/\D.bk σ' (upd H' d u),fun σ' H'=>H' d=some (.nu od u)/\D.ct σ' (upd H' d u)⟩ σ (upd H d (.nu od u)))
section
variable {X:Cx}
theorem Ry{st:Stmt}{t:TS}(h:PS X st t):PS X st (aa3 t):=by
 intro pins s σ H D I hw;obtain⟨d,u,hd,mu,hw⟩:=hw;obtain⟨od,I1⟩:=I.lock hd mu;refine iW (h pins s σ _ _ I1 (hw od)) fun f s1 q=>?_
 cases f with
 |next=>obtain⟨σ',H',I2,e,q⟩:=q;exact⟨σ',_,I2.unlock e (I.RM hd mu),q⟩
 |brk=>obtain⟨σ',H',I2,e,q⟩:=q;exact⟨σ',_,I2.unlock e (I.RM hd mu),q⟩
 |cont=>obtain⟨σ',H',I2,e,q⟩:=q;exact⟨σ',_,I2.unlock e (I.RM hd mu),q⟩
 |ret v=>obtain⟨x,σ',H',I2,r,e,q⟩:=q;exact⟨x,σ',_,I2.unlock e (I.RM hd mu),r,q⟩
theorem Gy{tg:de}{pins:List (Addr×Obj)}{σ:St}{H:Hp}{s:au}{R:It->Hp->Prop}{J:It}{tn:Nat->Heap->Prop}{tk:Nat}(I:Inv X pins σ H s)(o:Obj)
  (T:Turn X.prog X.w X.K tg J [s.heap.objs.size] s.heap.objs.size tn)(st:tn 0 (s.heap.push o))(q:R J H):PIE X pins σ tg R (.ref s.heap.objs.size) {s with heap:=s.heap.push o,toks:=tk}:=by
 refine⟨s.heap.objs.size,[s.heap.objs.size],tn,J,H,rfl,I.kept fun b ob e=>Heap.get?_push_of_some _ e,T,st,fun b hb=>?_,q⟩;have e:b=s.heap.objs.size:=by simpa using hb
 subst e;exact I.Qq (ao _) (I.gR.fresh (ao _))
end
def Itc(lo c:Int)(n:Nat):It:=⟨fun i _=>i<n,fun i H x H'=>H'=H/\x=.int (lo+(i:Nat)*c),fun i _=>n<=i⟩
theorem Me{P:bw}{w:bQ}{K:aq}{tg:de}(it:Addr)(lo c:Int)(n:Nat):Turn P w K tg (Itc lo c n) [it] it (fun i h=>L7 h it (lo+(i:Nat)*c) ((n:Int)-(i:Nat)) c) where
 mem:=by simp
 obj:=fun i h st b hb=>by
  have e:b=it:=by simpa using hb
  subst e;exact⟨_,st,fun v z=>nomatch z⟩
 keep:=fun i h h' st k=>k it (by simp) _ st
 item:=by
  intro X hP hw hK hc i pins s σ H E I hf st hg;subst hP hw hK;obtain⟨f0,f1,f2,f3,f4,f5⟩:=hf it (by simp);have W:=Walks.range (prog:=X.prog) (w:=X.w) (I.ok.hd hc) it lo c n;refine W.item i s _ _ hg st fun v h' tk hv Mo kk=>?_
  obtain⟨t,rfl⟩:=hv;have I1:Inv X pins σ H {s with heap:=h',toks:=tk}:=I.turned (fun b o hb e=>kk b o (by simpa using hb) e) f0 f1 f3 f4 f5;exact⟨_,rfl,Ju (s:={s with heap:=h',toks:=tk}) (n:="range_iterator") Mo rfl rfl (by decide) ⟨.int (lo+(i:Nat)*c),H,I1,⟨t,rfl⟩,⟨rfl,rfl⟩,Mo,fun b hb=>(hf b hb).1⟩⟩
 done:=by
  intro X hP hw hK hc i pins s σ H E I hf st hg;subst hP hw hK;obtain⟨f0,f1,f2,f3,f4,f5⟩:=hf it (by simp);exact Yz (I.ok.hd hc) st (by have:n<=i:=hg;omega) fun h' eb=>⟨rfl,I.turned (t':=s.toks) (fun b o hb e=>eb b o hb e) f0 f1 f3 f4 f5⟩
 self:=fun A i s Q E st h=>YA st h
def RgC(i j c:Int)(n:Nat):Prop:=c≠0/\c.natAbs<1073741824/\vo i j c=true/\fB i j c=n
theorem RgC.neg{i j:Int}(ha: -(2^62)<=i)(ha':i<2^62)(hb: -(2^62)<=j)(hb':j<2^62):RgC i j (-1) (i-j).toNat:=
 ⟨by decide,by decide,PySem.W.small_down ha ha' hb hb',PySem.W.rangeSize_downNat i j⟩
def abn(ta:TA):TI:=fun σ H R=>ta σ H fun vs H1=>E4 fun(i j c:Int) (n:Nat)=>A3 (vs=[.int i,.int j,.int c]) (RgC i j c n) (R (Itc i c n) H1)
section
variable {X:Cx} {tg:de}
theorem I0{a b c:de}{ta:TA}{p pos:sY}(hg:Gl X "range")(hm:X.mg "range" =none)(ha:PA X [a,b,c] ta)
  (hs:starEach [a,b,c] X.env=(false,eval a X.env)::starEach [b,c] X.env:=by rfl)(tQ:(backTo pos (starEach [b,c] X.env)).any (·.1)=false:=by rfl):
  PI X tg (.Call (.Name "range" p) [a,b,c] [] pos) (abn ta):=by
 intro pins s σ H R I h;refine Call_ (Ah I hg hm boot_range (hW (iW (ha pos pins s σ H _ I h) fun us s1 ⟨vs,H1,I1,r1,q1⟩=>?_) hs tQ));obtain⟨i,j,k,n,e,⟨c0,c1,c2,c3⟩,q⟩:=q1;subst e;cases r1 with
 |cons r rr=>
  cases rr with
  |cons r' rr=>
   cases rr with
   |cons r'' rr=>
    cases rr;obtain⟨t,rfl⟩:=r;obtain⟨t',rfl⟩:=r';obtain⟨t'',rfl⟩:=r'';refine call_range_3 c0 ?_ (.inl (PyProof.noPylong_small c1));refine wpAny_pyIter_range (IsRange.new ..) c2 ?_;have I2:Inv X pins σ H1 {s1 with heap:=s1.heap.push {cls:=.type "range",data:=.fields #[.int i t,.int j t',.int k t'']}}:=I1.kept (t':=s1.toks) fun b o e=>Heap.get?_push_of_some _ e
    refine Gy (tk:=s1.toks) I2 _ (Me _ i k n) ?_ q;have e1:i+((0:Nat):Int)*k=i:=by simp
    have e2:(n:Int)-((0:Nat):Int)=fB i j k:=by rw[c3];simp
    show L7 _ _ (i+((0:Nat):Int)*k) ((n:Int)-((0:Nat):Int)) k;rw[e1,e2];exact Heap.get?_push_size _ rfl
end
theorem Qr{lo c:Int}{n:Nat}{g:TG}{tb:TS}{D:Ends}{σ:St}{H:Hp}(Pv:Nat->St->Hp->Prop)(h0:Pv 0 σ H)
  (hs:∀i σ H,i<n->Pv i σ H->g (.int (lo+(i:Nat)*c)) σ H fun σ2 H2=>tb {D with nx:=Pv (i+1),ct:=Pv (i+1),bk:=D.nx} σ2 H2)(hd:∀σ H,Pv n σ H->D.nx σ H):
  ∃W:Nat->Nat->St->Hp->Prop,(∃m,W 0 m σ H)/\∀i m σ H,W i m σ H->
   ((Itc lo c n).stop i H/\D.nx σ H)\/((Itc lo c n).go i H/\∃N:St->Hp->Prop,(∀σ' H',N σ' H'->∃m',m'<m/\W (i+1) m' σ' H')/\∀x H',(Itc lo c n).LP i H x H'->g x σ H' fun σ2 H2=>tb {D with nx:=N,ct:=N,bk:=D.nx} σ2 H2):=by
 refine⟨fun i m σ H=>m=n-i/\i<=n/\Pv i σ H,⟨n,by simp,bK _,h0⟩,?_⟩;rintro i m σ H ⟨rfl,hi,p⟩;by_cases lM:i<n
 ·refine .inr ⟨lM,Pv (i+1),fun σ' H' p'=>⟨n-(i+1),by omega,rfl,lM,p'⟩,fun x H' y=>?_⟩;obtain⟨e,y⟩:=y;subst e y;exact hs i σ _ lM p
 ·have e:i=n:=by omega
  subst e;exact .inl ⟨ao _,hd σ H p⟩
section
variable {X:Cx} {tg:de}
end
def Its(x:Str):It:=⟨fun i _=>i<x.cps.size,fun i H v H'=>H'=H/\∃c,x.cps[i]? =some c/\v=.str ⟨#[c]⟩,fun i _=>x.cps.size<=i⟩
theorem Md{P:bw}{w:bQ}{K:aq}{tg:de}(it:Addr)(x:Str)(t:Vv)(ty:String)(hty:ty="str_ascii_iterator" \/ty="str_iterator"):
  Turn P w K tg (Its x) [it] it (fun i h=>h.IsStrIter it ty x t i) where
 mem:=by simp
 obj:=fun i h st b hb=>by
  have e:b=it:=by simpa using hb
  subst e;obtain⟨o,e,c,d⟩:=st;exact⟨o,e,fun v z=>by rw[d]at z;cases z⟩
 keep:=fun i h h' st k=>let ⟨o,ho,r⟩:=st;⟨o,k it (by simp) o ho,r⟩
 item:=by
  intro X hP hw hK hc i pins s σ H E I hf st hg;subst hP hw hK;obtain⟨f0,f1,f2,f3,f4,f5⟩:=hf it (by simp);have W:Walks X.prog X.w X.A it [it] [it] x.cps.size (SignAt x) (fun i h=>h.IsStrIter it ty x t i):=by
   rcases hty with e|e
   ·rw[e];exact Walks.strAscii (I.ok.hd hc) it x t
   ·rw[e];exact Walks.strWide (I.ok.hd hc) it x t
  have Xu:["enumerate","zip","dict_itemiterator","dict_reverseitemiterator","odict_iterator","itertools.zip_longest","itertools.pairwise"].contains ty=false:=by
   rcases hty with e|e
   ·rw[e];decide
   ·rw[e];decide
  refine W.item i s _ _ hg st fun v h' tk hv Mo kk=>?_
  obtain⟨c,u,hcx,rfl⟩:=hv;have I1:Inv X pins σ H {s with heap:=h',toks:=tk}:=I.turned (fun b o hb e=>kk b o (by simpa using hb) e) f0 f1 f3 f4 f5;obtain⟨oi,e,cc,dd⟩:=id Mo;exact⟨_,rfl,Ju (s:={s with heap:=h',toks:=tk}) e cc dd Xu ⟨.str ⟨#[c]⟩,H,I1,⟨u,rfl⟩,⟨rfl,c,hcx,rfl⟩,Mo,fun b hb=>(hf b hb).1⟩⟩
 done:=by
  intro X hP hw hK hc i pins s σ H E I hf st hg;subst hP hw hK;obtain⟨f0,f1,f2,f3,f4,f5⟩:=hf it (by simp);have hx:x.cps[i]? =none:=iJ hg;rcases hty with e|e
  ·rw[e]at st;exact wpAny_pyNext_ascii_end (I.ok.hd hc) st hx fun h' eb=>⟨rfl,I.turned (t':=s.toks) (fun b o hb e=>eb b o hb e) f0 f1 f3 f4 f5⟩
  ·rw[e]at st;exact wpAny_pyNext_wide_end (I.ok.hd hc) st hx fun h' eb=>⟨rfl,I.turned (t':=s.toks) (fun b o hb e=>eb b o hb e) f0 f1 f3 f4 f5⟩
 self:=fun A i s Q E st h=>by
  rcases hty with e|e
  ·rw[e]at st;exact wpAny_pyIter_striter_ascii st h
  ·rw[e]at st;exact wpAny_pyIter_striter_wide st h
def afm(te:TE):TI:=fun σ H R=>te σ H fun v H1=>∃x,v=.str x/\R (Its x) H1
theorem acz{X:Cx}{tg e:de}{te:TE}(he:PE X e te):PI X tg e (afm te):=by
 intro pins s σ H R I h;refine iW (he pins s σ H _ I h) fun v s1 ⟨y,H1,I1,r1,x,ex,q⟩=>?_
 subst ex;obtain⟨t,rfl⟩:=r1;cases ha:x.cps.all (· <128)
 ·exact wpAny_pyIter_wide ha (Gy (tk:=s1.toks) I1 _ (Md _ x t "str_iterator" (.inr rfl)) ⟨_,Heap.get?_push_size _ rfl,rfl,rfl⟩ q)
 ·exact wpAny_pyIter_ascii ha (Gy (tk:=s1.toks) I1 _ (Md _ x t "str_ascii_iterator" (.inl rfl)) ⟨_,Heap.get?_push_size _ rfl,rfl,rfl⟩ q)
section
variable {prog:bw} {w:bQ} {A:cR} {E:aj->au->Prop} {s:au}
end
theorem Xf{κ:Type}{bx:List (κ×V)}{vs:List (κ×aj)}(h:KV bx vs):∀ {i:Nat} {k:κ} {v:V},bx[i]? =some (k,v)->∃u,vs[i]? =some (k,u)/\RelV v u:=by
 unfold KV at h;induction h with
 |nil=>intro i k v e;simp at e
 | @cons a b l₁ l₂ r t ih=>
  intro i k v e;cases i with
  |zero=>
   simp only[OI,Option.some.injEq]at e;subst e;refine⟨b.2,?_,r.2⟩;simp only[OI];exact congrArg some (SW r.1.symm rfl)
  |succ j=>
   simp only[List.getElem?_cons_succ]at e⊢;exact ih e
theorem Wu{k:Key}{u:aj}(h:DQ k u=true):RelV (kV k) u:=by
 rcases iB h with ⟨i,t,rfl,rfl⟩|⟨x,t,rfl,rfl⟩
 ·exact⟨t,rfl⟩
 ·exact⟨t,rfl⟩
section
variable {X:Cx} {pins:List (Addr×Obj)} {σ:St} {H:Hp} {s:au} {d:Addr} {o:Obj}
theorem Inv.UE{bx:List (Key×V)}(I:Inv X pins σ H s)(h:H d=some (.nu o (.dK bx))):
  (d==sysModules)=false/\s.heap.get? d=some o/\o.ExactDict/\∃(es:Array Vx) (ep:Nat) (vs:List (Key×aj)),o.data=.dict es ep/\es.size=bx.length/\KV bx vs/\s.heap.DictAt (gQ X.prog X.w) d vs ep:=by
 obtain⟨hd,z,hs,vs,kv,o',es,ep,ho,hx,Sf,r⟩:=I.gR d _ h;rw[hd]at ho;cases ho;refine⟨hs,hd,hx,es,ep,vs,Sf,?_,kv,o,es,hd,hx,Sf,r⟩;have l1:=r.2.1.length;have l2:bx.length=vs.length:=Paired.length kv;rw[aI]at l1;omega
end
def Itd(d:Addr)(o:Obj)(bx:List (Key×V)):It:=⟨fun i H=>H d=some (.nu o (.dK bx))/\i<bx.length,fun i H x H'=>H'=H/\∃k,bx[i]? =some (k,x),fun i H=>H d=some (.nu o (.dK bx))/\bx.length<=i⟩
def Iti(d:Addr)(o:Obj)(bx:List (Key×V)):It:=⟨fun i H=>H d=some (.nu o (.dK bx))/\i<bx.length,fun i H x H'=>∃T k v,bx[i]? =some (k,v)/\x=.ref T/\H T=none/\H'=upd H T (.tup [kV k,v]),fun i H=>H d=some (.nu o (.dK bx))/\bx.length<=i⟩
theorem Fp{o:Obj}{es es':Array Vx}{ep rM:Nat}(h:o.data=.dict es ep)(h':o.data=.dict es' rM):es'=es/\rM=ep:=by
 rw[h]at h';cases h';exact⟨rfl,rfl⟩
section
variable {P:bw} {w:bQ} {K:aq} {tg:de} {d:Addr} {o:Obj} {es:Array Vx} {ep:Nat}
theorem Td{bx:List (Key×V)}(it:Addr)(hod:o.data=.dict es ep):Turn P w K tg (Itd d o bx) [it] it (fun i h=>h.IsValIter it d i bx.length ep) where
 mem:=by simp
 obj:=fun i h st b hb=>by
  have e:b=it:=by simpa using hb
  subst e;obtain⟨oi,e,c,dd⟩:=st;exact⟨oi,e,fun v z=>by rw[dd]at z;cases z⟩
 keep:=fun i h h' st k=>st.at fun oi e=>k it (by simp) oi e
 item:=by
  intro X hP hw hK hc i pins s σ H E I hf st hg;subst hP hw hK;obtain⟨hd,hi⟩:=hg;obtain⟨f0,f1,f2,f3,f4,f5⟩:=hf it (by simp);obtain⟨hs,hgd,hx,es',rM,vs,Sf,hsz,kv,hm⟩:=I.UE hd;obtain⟨rfl,rfl⟩:=Fp hod Sf;obtain⟨⟨k,v⟩,hkv⟩:∃p,bx[i]? =some p:=⟨bx[i],aB hi⟩;obtain⟨u,hu,ru⟩:=Xf kv hkv;have hl:bx.length=vs.length:=Paired.length kv;rw[hl]at st;refine wpAny_pyNext_values_item st hm hu fun h' Mo sb=>?_
  have I1:Inv X pins σ H {s with heap:=h'}:=I.turned (t':=s.toks) (fun b ob hb e=>(sb.2 b hb).trans e) f0 f1 f3 f4 f5;obtain⟨oi,e,c,dd⟩:=id Mo;refine⟨u,rfl,Ju (s:={s with heap:=h'}) e c dd (by decide) ⟨v,H,I1,ru,⟨rfl,k,hkv⟩,?_,fun b hb=>(hf b hb).1⟩⟩;show h'.IsValIter it d (i+1) bx.length _;rw[hl];exact Mo
 done:=by
  intro X hP hw hK hc i pins s σ H E I hf st hg;subst hP hw hK;obtain⟨hd,hi⟩:=hg;obtain⟨f0,f1,f2,f3,f4,f5⟩:=hf it (by simp);obtain⟨hs,hgd,hx,es',rM,vs,Sf,hsz,kv,hm⟩:=I.UE hd;obtain⟨rfl,rfl⟩:=Fp hod Sf;have hl:bx.length=vs.length:=Paired.length kv;rw[hl]at st;exact wpAny_pyNext_values_end (I.ok.hd hc) st hm (fL (by omega)) fun h' eb=>⟨rfl,I.turned (t':=s.toks) (fun b ob hb e=>eb b ob hb e) f0 f1 f3 f4 f5⟩
 self:=fun A i s Q E st h=>wpAny_pyIter_valiter st h
theorem O8{bx:List (Key×V)}{elts:List de}{kk:Nat}{zK:sY}(it:Addr)(hod:o.data=.dict es ep):
  Turn P w K (.Tuple elts kk zK) (Iti d o bx) [it] it (fun i h=>∃ok ov,IsItemIter h it d i bx.length ep ok ov) where
 mem:=by simp
 obj:=fun i h st b hb=>by
  have e:b=it:=by simpa using hb
  subst e;obtain⟨ok,ov,e⟩:=st;exact⟨_,e,fun v z=>nomatch z⟩
 keep:=fun i h h' st k=>let ⟨ok,ov,e⟩:=st;⟨ok,ov,k it (by simp) _ e⟩
 item:=by
  intro X hP hw hK hc i pins s σ H E I hf st hg;subst hP hw hK;obtain⟨hd,hi⟩:=hg;obtain⟨hs,hgd,hx,es',rM,vs,Sf,hsz,kv,hm⟩:=I.UE hd;obtain⟨rfl,rfl⟩:=Fp hod Sf;obtain⟨⟨k,v⟩,hkv⟩:∃p,bx[i]? =some p:=⟨bx[i],aB hi⟩;obtain⟨u,hu,ru⟩:=Xf kv hkv;have hl:bx.length=vs.length:=Paired.length kv;obtain⟨ok,ov,he⟩:=st;rw[hl]at he;have lM:it<s.heap.objs.size:=Heap.lt_size he;refine wpAny_pyNext_items_item he hm hu fun key h' Uw ho hT hz hk=>?_
  refine⟨_,rfl,wpAny_letOwnedTupleGo_items (s:={s with heap:=h'}) ho fun Vp Se sb=>?_⟩;have hT2:Vp.get? s.heap.objs.size=some {cls:=.type "tuple",data:=.seq #[key,u]}:=(sb.2 _ (lO lM)).trans hT;have new:i9 X.prog X.w (upd H s.heap.objs.size (.tup [kV k,v])) Vp s.heap.objs.size (.tup [kV k,v]):=
   ⟨by show 2<=sizeLine;decide,[key,u],.cons (Wu (show DQ k key=true from Uw)) (.cons ru .nil),⟨_,hT2,rfl,_,rfl⟩⟩
  have I1:Inv X pins σ (upd H s.heap.objs.size (.tup [kV k,v])) {s with heap:=Vp}:=
   I.Ci (t':=s.toks) (ch:=[it]) (fun b ob hb e=>(sb.2 b (by simpa using hb)).trans (hk b ob (by simpa using hb) e)) hf (ao _) new
  refine⟨.ref s.heap.objs.size,_,I1,rfl,⟨_,k,v,hkv,rfl,I.gR.fresh (ao _),rfl⟩,⟨key,u,?_⟩,fun b hb=>?_⟩
  ·rw[hl];exact Se
  ·have e:b=it:=by simpa using hb
   rw[e,cq (bE lM)];exact(hf it (by simp)).1
 done:=by
  intro X hP hw hK hc i pins s σ H E I hf st hg;subst hP hw hK;obtain⟨hd,hi⟩:=hg;obtain⟨f0,f1,f2,f3,f4,f5⟩:=hf it (by simp);obtain⟨hs,hgd,hx,es',rM,vs,Sf,hsz,kv,hm⟩:=I.UE hd;obtain⟨rfl,rfl⟩:=Fp hod Sf;have hl:bx.length=vs.length:=Paired.length kv;obtain⟨ok,ov,he⟩:=st;rw[hl]at he;exact wpAny_pyNext_items_end (I.ok.hd hc) he hm (fL (by omega)) fun h' eb=>⟨rfl,I.turned (t':=s.toks) (fun b ob hb e=>eb b ob hb e) f0 f1 f3 f4 f5⟩
 self:=fun A i s Q E st h=>let ⟨_,_,e⟩:=st;PySem.W.kcp_self e h
end
def abm(td:TE):TI:=fun σ H R=>td σ H fun x H1=>E3 fun d o bx=>A3 (x=.ref d) (H1 d=some (.nu o (.dK bx))) (R (Itd d o bx) H1)
def Xk(td:TE):TI:=fun σ H R=>td σ H fun x H1=>E3 fun d o bx=>A3 (x=.ref d) (H1 d=some (.nu o (.dK bx))) (R (Iti d o bx) H1)
section
variable {X:Cx} {tg e:de} {td:TE} {apos mq:sY}
theorem TR(he:PE X e td)(G9:attributeBase e "values" X.env (eval e X.env)=eval e X.env:=by rfl)(G8:(apos.endLine==mq.line)=true:=by rfl):PI X tg (.Call (.Attribute e "values" apos) [] [] mq) (abm td):=by
 intro pins s σ H R I h;refine wd (T:="dict") (id:="dict.values") G9 rfl G8 F.plainAttrs_dict F.slot_dict_values F.type_dict_values (iW (he pins s σ H _ I h) fun u s1 ⟨x,H1,I1,rx,d,o,bx,ex,hd,q⟩=>?_);subst ex;obtain rfl:u=eQ d:=rx;obtain⟨hs,hgd,hx,es,ep,vs,Sf,hsz,kv,hm⟩:=I1.UE hd;have hl:bx.length=vs.length:=Paired.length kv;refine⟨hm.dictOf.typeIs,hm.dictOf.mapOf.noDict,?_⟩;have I2:Inv X pins σ H1 {s1 with heap:=s1.heap.push {cls:=.type "dict_values",data:=.fields #[.ref d]}}:=I1.kept (t':=s1.toks) fun b ob q=>Heap.get?_push_of_some _ q
 have fin:wpAny (model X.prog X.w) X.A (pyIter (.ref s1.heap.objs.size)) (PIE X pins σ tg R) X.xe {s1 with heap:=s1.heap.push {cls:=.type "dict_values",data:=.fields #[.ref d]}}:=by
  refine wpAny_pyIter_values (d:=d) (knd:=gQ X.prog X.w) ⟨_,Heap.get?_push_size _ rfl,rfl,rfl⟩ (hm.push _) (Gy (tk:=s1.toks) I2 _ (Td _ Sf) ⟨_,Heap.get?_push_size _ rfl,rfl,?_⟩ q);rw[hl]<;>rfl
 show wpAny _ _ (callWith mq (.builtin "dict.values") [.ref d] [] []) _ X.xe s1;exact method_meetsIn F.slot_dict_values F.entry_dict_values rfl (SO ⟨rfl,hm.dictOf.typeIs,F.args_dict_values_1 _,_,meets_dict_values (gQ X.prog X.w) d hs,⟨vs,hm.dictOf⟩,fin⟩)
theorem WI{elts:List de}{kk:Nat}{zK:sY}(he:PE X e td)(G9:attributeBase e "items" X.env (eval e X.env)=eval e X.env:=by rfl)(G8:(apos.endLine==mq.line)=true:=by rfl):
  PI X (.Tuple elts kk zK) (.Call (.Attribute e "items" apos) [] [] mq) (Xk td):=by
 intro pins s σ H R I h;refine wd (T:="dict") (id:="dict.items") G9 rfl G8 F.plainAttrs_dict F.slot_dict_items F.type_dict_items (iW (he pins s σ H _ I h) fun u s1 ⟨x,H1,I1,rx,d,o,bx,ex,hd,q⟩=>?_);subst ex;obtain rfl:u=eQ d:=rx;obtain⟨hs,hgd,hx,es,ep,vs,Sf,hsz,kv,hm⟩:=I1.UE hd;have hl:bx.length=vs.length:=Paired.length kv;refine⟨hm.dictOf.typeIs,hm.dictOf.mapOf.noDict,?_⟩;have I2:Inv X pins σ H1 {s1 with heap:=s1.heap.push {cls:=.type "dict_items",data:=.fields #[.ref d]}}:=I1.kept (t':=s1.toks) fun b ob q=>Heap.get?_push_of_some _ q
 have fin:wpAny (model X.prog X.w) X.A (pyIter (.ref s1.heap.objs.size)) (PIE X pins σ (.Tuple elts kk zK) R) X.xe {s1 with heap:=s1.heap.push {cls:=.type "dict_items",data:=.fields #[.ref d]}}:=by
  refine wpAny_pyIter_items (d:=d) (knd:=gQ X.prog X.w) ⟨_,Heap.get?_push_size _ rfl,rfl,rfl⟩ (hm.push _) (Gy (tk:=s1.toks) I2 _ (O8 _ Sf) ⟨.none,.none,?_⟩ q);rw[hl];exact Heap.get?_push_size _ rfl
 show wpAny _ _ (callWith mq (.builtin "dict.items") [.ref d] [] []) _ X.xe s1;exact method_meetsIn F.slot_dict_items F.entry_dict_items rfl (SO ⟨rfl,hm.dictOf.typeIs,F.args_dict_items_1 _,_,meets_dict_items (gQ X.prog X.w) d hs,⟨vs,hm.dictOf⟩,fin⟩)
end
def Ite(K:aq)(a:Addr):It:=⟨fun i H=>∃(xs:List V) (x:V),bW K H a xs/\xs[i]? =some x,fun i H v H'=>∃T x,v=.ref T/\H T=none/\H'=upd H T (.tup [.int (i:Nat),x])/\∀xs,bW K H a xs->xs[i]? =some x,fun i H=>∃xs:List V,bW K H a xs/\xs.length<=i⟩
theorem Tf{P:bw}{w:bQ}{K:aq}{elts:List de}{kk:Nat}{zK:sY}(a e it:Addr):
  Turn P w K (.Tuple elts kk zK) (Ite K a) [e,it] e (fun i h=>(∃old,yg h e it ((i:Nat):Int) old)/\h.IsListIter it a i/\e≠it) where
 mem:=by simp
 obj:=fun i h st b hb=>by
  obtain⟨⟨old,he⟩,⟨o,ho,hc,hd⟩,_⟩:=st;have e':b=e\/b=it:=by simpa using hb
  rcases e' with z|z
  ·rw[z];exact⟨_,he,fun v q=>nomatch q⟩
  ·rw[z];exact⟨o,ho,fun v q=>by rw[hd]at q;cases q⟩
 keep:=fun i h h' st k=>let ⟨⟨old,he⟩,hi,j1⟩:=st;⟨⟨old,k e (by simp) _ he⟩,hi.at fun o q=>k it (by simp) o q,j1⟩
 item:=by
  intro X hP hw hK hc i pins s σ H E I hf st hg;subst hP hw hK;obtain⟨⟨old,he⟩,hit,j1⟩:=st;obtain⟨xs,x,hq,hx⟩:=hg;obtain⟨dh,rv,p,hz⟩:=I.list hq;obtain⟨u,hu,ru⟩:=rv.get hx;have YU:e<s.heap.objs.size:=Heap.lt_size he;have Ux:it<s.heap.objs.size:=by obtain⟨_,q,_⟩:=hit;exact Heap.lt_size q
  refine wpAny_pyNext_enum_item he hit p.isList (x:=u) (by simpa using hu) j1 fun h' ho ada hT hsz hk=>?_
  refine⟨_,rfl,QR (s:={s with heap:=h',toks:=s.toks+1}) ho fun Vp Se sb=>?_⟩;have hT2:Vp.get? s.heap.objs.size=some {cls:=.type "tuple",data:=.seq #[.int i s.toks,u]}:=(sb.2 _ (lO YU)).trans hT;have new:i9 X.prog X.w (upd H s.heap.objs.size (.tup [.int (i:Nat),x])) Vp s.heap.objs.size (.tup [.int (i:Nat),x]):=
   ⟨by show 2<=sizeLine;decide,[.int i s.toks,u],.cons ⟨_,rfl⟩ (.cons ru .nil),⟨_,hT2,rfl,_,rfl⟩⟩
  have I1:Inv X pins σ (upd H s.heap.objs.size (.tup [.int (i:Nat),x])) {s with heap:=Vp,toks:=s.toks+1}:=
   I.Ci (ch:=[e,it]) (fun b ob hb q=>(sb.2 b (fun z=>hb (by simp[z]))).trans (hk b ob (fun z=>hb (by simp[z])) (fun z=>hb (by simp[z])) q)) hf (ao _) new
  refine⟨.ref s.heap.objs.size,_,I1,rfl,⟨_,x,rfl,I.gR.fresh (ao _),rfl,fun ys hy=>by rw[I.GZ hy hq];exact hx⟩,⟨⟨u,?_⟩,ada.at fun o q=>(sb.2 it (bT j1)).trans q,j1⟩,fun b hb=>?_⟩
  ·have e1:((i+1:Nat):Int)=(i:Int)+1:=by omega
   rw[e1];exact Se
  ·have hb':b<s.heap.objs.size:=by
    have e':b=e\/b=it:=by simpa using hb
    rcases e' with z|z
    ·rw[z];exact YU
    ·rw[z];exact Ux
   rw[cq (bE hb')];exact(hf b hb).1
 done:=by
  intro X hP hw hK hc i pins s σ H E I hf st hg;subst hP hw hK;obtain⟨⟨old,he⟩,hit,j1⟩:=st;obtain⟨xs,hq,hx⟩:=hg;obtain⟨dh,rv,p,hz⟩:=I.list hq;obtain⟨f0,f1,f2,f3,f4,f5⟩:=hf it (by simp);have hl:=rv.length;exact wpAny_pyNext_enum_end (I.ok.hd hc) he hit p.isList (by simp;omega) fun h' eb=>⟨rfl,I.turned (t':=s.toks) (fun b o hb q=>eb b o hb q) f0 f1 f3 f4 f5⟩
 self:=fun A i s Q E st h=>let ⟨⟨_,he⟩,_⟩:=st;wb he h
def abq(K:aq)(ta:TA):TI:=fun σ H R=>ta σ H fun vs H1=>E2 fun a xs=>A3 (vs=[.ref a]) (bW K H1 a xs) (R (Ite K a) H1)
theorem A7{X:Cx}{e:de}{ta:TA}{p pos zK:sY}{elts:List de}{kk:Nat}(hg:Gl X "enumerate")(hm:X.mg "enumerate" =none)(ha:PA X [e] ta)(hs:starEach [e] X.env=[(false,eval e X.env)]:=by rfl):
  PI X (.Tuple elts kk zK) (.Call (.Name "enumerate" p) [e] [] pos) (abq X.K ta):=by
 intro pins s σ H R I h;refine Call_ (Ah I hg hm boot_enumerate (hW (iW (ha pos pins s σ H _ I h) fun us s1 ⟨vs,H1,I1,r1,q1⟩=>?_) hs rfl));obtain⟨a,xs,ex,hq,q⟩:=q1;subst ex;cases r1 with
 |cons r rr=>
  cases rr;cases r;obtain⟨dh,rv,p',hz⟩:=I1.list hq;refine call_enumerate_list p'.isList fun h' he hit hsz hk=>wb he ?_
  have I2:Inv X pins σ H1 {s1 with heap:=h'}:=I1.kept (t':=s1.toks) hk;refine⟨s1.heap.objs.size+1,[s1.heap.objs.size+1,s1.heap.objs.size],_,_,H1,rfl,I2,Tf a (s1.heap.objs.size+1) s1.heap.objs.size,⟨⟨.none,he⟩,hit,Nat.succ_ne_self _⟩,fun b hb=>?_,q⟩;have e':b=s1.heap.objs.size+1\/b=s1.heap.objs.size:=by simpa using hb
  have hle:s1.heap.objs.size<=b:=by
   rcases e' with z|z
   ·rw[z];exact Nat.le_add_right _ _
   ·rw[z];exact ao _
  exact I1.Qq hle (I1.gR.fresh hle)
end L2
section
namespace Bits
open PySem PyProof.Rows
end Bits
end
section
namespace TL
open PySem PySem.Builtin PySem.Builtin.Str PySem.StrLaws
end TL
end
namespace L2
open PySem PySem.Spec PyProof.Rows
section
variable {X:Cx} {pins:List (Addr×Obj)} {σ:St} {H:Hp} {s:au} {Q:VK}
end
section
variable {X:Cx}
end
section
variable {X:Cx} {o e:de} {to te:TE}
end
section
variable {X:Cx}
end
end L2
namespace Att
open PySem PySem.W PySem.Calls PyProof.Rows
section
variable {prog:bw} {w:bQ} {A:cR} {E:aj->au->Prop} {s:au} {K:Frag}
end
end Att
namespace L2
open PySem PySem.Spec PyProof.Rows
end L2
namespace L2
open PySem PySem.Spec PyProof.Rows
def inClass(s:Stmt)(j:Nat):Stmt:=match s with
 |.ClassDef _ _ _ body _ _ _ _ _ _ _=>body.getD j (.Pass ⟨0,0,0,0⟩)
 |_=>.Pass ⟨0,0,0,0⟩
def yG(s:Stmt):Arguments:=match s with
 |.FunctionDef _ a _ _ _ _ _ _ _ _=>a
 |_=>{posonlyargs:=[],args:=[],vararg:=none,kwonlyargs:=[],kw_defaults:=[],kwarg:=none,defaults:=[]}
def vd(s:Stmt):List Stmt:=match s with
 |.FunctionDef _ _ b _ _ _ _ _ _ _=>b
 |_=>[]
def aL(s:Stmt):Scope:=match s with
 |.FunctionDef _ _ _ _ _ _ sc _ _ _=>sc
 |_=>{kind:=.function,names:=[],isGenerator:=false,isCoroutine:=false}
abbrev iC:SN:=fun _ _ _ _ _ _=>False
abbrev E0:XK:=fun _ _ _=>False
theorem bp{X:Cx}:vj iC X E0:=fun _ _ _ _ _ _ _ h=>h.elim
structure Fun(K:aq)(x qual:Str)(st:Stmt)(f:Addr)(fd:FuncData):Prop where
 ex:∃(oc:aj) (od:Option Addr) (kV doc pm:aj) (an:Option Addr) (EL ct:aj) (osl:Array (Option aj)),
  fd=lp x qual (yG st) (vd st) (aL st) .none kV doc pm an EL ct/\K.lookup f=some ⟨oc,od,.func fd,osl⟩/\nH K EL qual=true
 kp:eV K (.ref f)=true
section
variable {P:bw} {w:bQ} {K:aq} {mg:Str->Option aj} {base:Heap}
theorem Fun.ok{x qual:Str}{st:Stmt}{f:Addr}{fd:FuncData}{N ps:List Str}{k:Nat}{sp:Sp}(F:Fun K x qual st f fd)(S:a8 N ps (aL st))(len:∀vs H Q E,sp vs H Q E->vs.length=ps.length)
  (XB:∀(EL:aj) (A:cR) (outer:List OG) (s:au) (H:Hp) (vs:List V) (Q:VK) (E:XK),nE k (A.deeper (envOfC qual (aL st) s.heap.objs.size f EL))->sp vs H Q E->
   ∃t,U7 (UP iC P w K mg base N qual (aL st) f EL A outer s H E).nox (vd st) t/\t {nx:=fun _ H'=>Q .lC H',rt:=Q} (start N vs) H):cF P w K mg base iC (k+1) f fd ps sp:=by
 obtain⟨oc,od,kV,doc,pm,an,EL,ct,osl,rfl,lk,UA⟩:=F.ex;refine agi lk UA S len fun A outer s H vs Q E hr Sb=>?_
 obtain⟨t,h,q⟩:=XB EL A outer s H vs Q E hr Sb;exact⟨t,h.nox,q⟩
theorem Fun.binds{x qual:Str}{st:Stmt}{f:Addr}{fd:FuncData}{ps:List Str}(F:Fun K x qual st f fd)
  (h:∀(kV doc pm:aj) (an:Option Addr) (EL ct:aj) (us:List aj),us.length=ps.length->bindArgs (lp x qual (yG st) (vd st) (aL st) .none kV doc pm an EL ct) ⟨us,[]⟩=pure (ps.zip us)):Binds K fd ps []:=by
 obtain⟨oc,od,kV,doc,pm,an,EL,ct,osl,rfl,lk,UA⟩:=F.ex;exact .all (h kV doc pm an EL ct)
theorem C1{x qual:Str}{st:Stmt}{f:Addr}{oc:aj}{od an:Option Addr}{osl:Array (Option aj)}{kV doc pm EL ct:aj}(l:K.lookup f=some ⟨oc,od,.func (lp x qual (yG st) (vd st) (aL st) .none kV doc pm an EL ct),osl⟩)
  (c:nH K EL qual=true)(k:eV K (.ref f)=true):Fun K x qual st f (lp x qual (yG st) (vd st) (aL st) .none kV doc pm an EL ct):=⟨⟨oc,od,kV,doc,pm,an,EL,ct,osl,rfl,l,c⟩,k⟩
end
theorem abr{A:cR}{k:Nat}(hr:nE k A):A.units+1<cLine:=YH (Nat.add_le_add_left (by decide:1<=64) _) hr.units
section
variable {X:Cx}
theorem pv(i:Nat){x:Str}{pos:sY}(hN:X.N[i]? =some x:=by rfl)(hv:Vis X.env.scope x:=by first|exact be rfl|exact jh (be rfl)|exact jh (jh rfl))(hd:(x==("__debug__" :Str))=false:=by decide)
  (UA:(x==("__classdict__" :Str))=false:=by decide):PE X (.Name x pos) (ab0 i):=acA hN hv hd UA
end
theorem EF{A B:Prop}(h:B):if false=true then A else B:=by
 rw[if_neg br];exact h
theorem oH{A B:Prop}(h:A):if true=true then A else B:=by
 rw[if_pos rfl];exact h
theorem ik{c A B:Prop}[Decidable c](h1:c->A)(h2:¬c->B):if c then A else B:=by
 by_cases h:c
 ·rw[if_pos h];exact h1 h
 ·rw[if_neg h];exact h2 h
def a7(H H':Hp):Prop:=∀b o,H b=some o->H' b=some o
theorem a7.refl(H:Hp):a7 H H:=fun _ _ h=>h
theorem a7.trans{H H1 H2:Hp}(a:a7 H H1)(b:a7 H1 H2):a7 H H2:=fun c o h=>b c o (a c o h)
theorem a7.free{H H':Hp}(e:a7 H H'){l:Addr}(h:H' l=EX):H l=EX:=by
 cases q:H l with
 |none=>rfl
 |some o=>
  rw[e l o q]at h;cases h
theorem a7.seq{K:aq}{H H':Hp}{a:Addr}{xs:List V}(e:a7 H H')(h:bW K H a xs):bW K H' a xs:=by
 rcases h with (h|⟨o,h⟩)|h
 ·exact .inl (.inl (e _ _ h))
 ·exact .inl (.inr ⟨o,e _ _ h⟩)
 ·exact .inr h
section
variable {κ:Type} [DecidableEq κ]
end
theorem a7.made{H H1:Hp}{x dx C:Addr}(nx:H x=EX)(nd:H dx=EX)(k:∀b o,(upd (upd H dx (.own x)) x (.ins C dx [])) b=some o->b≠x->H1 b=some o):a7 H H1:=fun b o e=>
 k b o (by rw[cq (aR e nx),cq (aR e nd)];exact e) (aR e nx)
end L2
section
namespace L2
open PySem PySem.Spec PyProof.Rows
open PySem.W (WData Codec OpenSpec Well WellAll ReadsW ReadsAllW)
mutual
inductive Dw (K:aq) (H:Hp):V->WData->Prop
 |lC:Dw K H .lC .none
 |bl (b:Bool):Dw K H (.bl b) (.bool b)
 |int (i:Int):Dw K H (.int i) (.int i)
 |str (x:Str):Dw K H (.str x) (.str x)
 |OP (b:Array UInt8):Dw K H (.OP b) (.bytes b.toList)
 |lst {a:Addr} {xs:List V} {ds:List WData}:bW K H a xs->vN K H xs ds->Dw K H (.ref a) (.list ds)
 |tup {a:Addr} {xs:List V} {ds:List WData}:wa K H a xs->vN K H xs ds->Dw K H (.ref a) (.tuple ds)
inductive vN (K:aq) (H:Hp):List V->List WData->Prop
 |nil:vN K H [] []
 |cons {v:V} {vs:List V} {d:WData} {ds:List WData}:Dw K H v d->vN K H vs ds->vN K H (v::vs) (d::ds)
end
theorem Sn{K:aq}{H:Hp}:∀ns:List Int,vN K H (ns.map V.int) (ns.map WData.int)
 |[]=>.nil
 |n::r=>.cons (.int n) (Sn r)
theorem RZ{K:aq}{H:Hp}:∀(ns:List Int) (xs:List V),vN K H xs (ns.map WData.int)->xs=ns.map V.int
 |[],xs,h=>by
  cases h;rfl
 |n::r,xs,h=>by
  cases h with
  |cons h1 h2=>
   cases h1;rw[RZ r _ h2]<;>rfl
section
variable {P:bw} {w:bQ} {K:aq} {H:Hp} {h:Heap} {R:Vg} {cl:Str->Option Addr}
theorem ab4{a:Addr}{xs:List V}(gR:yd P w H h)(KX:K.In h)(q:bW K H a xs):∃(dh:List aj) (o:Obj) (n:Nat),cZ xs dh/\h.get? a=some o/\o.cls=.type "list" /\o.data=.seq dh.toArray n:=by
 rcases q with q|⟨o,dh,n,e,hc,_,hd,_,hv⟩
 ·obtain⟨_,dh,n,hv,e⟩:=(show i9 P w H h a (.lst xs)from q.ok gR);exact⟨dh,_,n,hv,e,rfl,rfl⟩
 ·exact⟨dh.toList,o,n,hv,KX _ _ e,hc,by simp[hd]⟩
theorem ab3{a:Addr}{xs:List V}(gR:yd P w H h)(KX:K.In h)(q:wa K H a xs):∃(dh:List aj) (o:Obj) (n:Nat),cZ xs dh/\h.get? a=some o/\o.cls=.type "tuple" /\o.data=.seq dh.toArray n:=by
 rcases q with q|⟨o,dh,n,e,hc,hd,_,hv⟩
 ·obtain⟨_,dh,hv,o,e,hc,n,hd⟩:=(show i9 P w H h a (.tup xs)from q.ok gR);exact⟨dh,o,n,hv,e,hc,hd⟩
 ·exact⟨dh.toList,o,n,hv,KX _ _ e,hc,by simp[hd]⟩
mutual
theorem Dw.reads(gR:yd P w H h)(KX:K.In h):∀(d:WData) (v:V) (u:aj),Dw K H v d->RelV v u->∃as,ReadsW R cl h u d as
 |.none,_,_,x,r=>by
  cases x;cases r;exact⟨_,ReadsW.none⟩
 |.bool b,_,_,x,r=>by
  cases x;cases r;exact⟨_,ReadsW.bool b⟩
 |.int i,_,_,x,r=>by
  cases x;obtain⟨t,rfl⟩:=r;exact⟨_,ReadsW.int i t⟩
 |.str s,_,_,x,r=>by
  cases x;obtain⟨t,rfl⟩:=r;exact⟨_,ReadsW.str s t⟩
 |.bytes b,_,_,x,r=>by
  cases x;obtain⟨t,rfl⟩:=r;exact⟨_,ReadsW.bytes _ t⟩
 |.list ds,_,_,x,r=>by
  cases x with
  |lst hs ha=>
   cases r;obtain⟨dh,o,n,rv,ho,hc,hd⟩:=ab4 gR KX hs;obtain⟨as,hr⟩:=Dw.readsAll gR KX ds _ dh ha rv;exact⟨_,ReadsW.list ho hc hd hr⟩
 |.tuple ds,_,_,x,r=>by
  cases x with
  |tup hs ha=>
   cases r;obtain⟨dh,o,n,rv,ho,hc,hd⟩:=ab3 gR KX hs;obtain⟨as,hr⟩:=Dw.readsAll gR KX ds _ dh ha rv;exact⟨_,ReadsW.tuple ho hc hd hr⟩
 |.float _,_,_,x,_=>by cases x
 |.dict _,_,_,x,_=>by cases x
 |.bytearray _,_,_,x,_=>by cases x
 |.set _,_,_,x,_=>by cases x
 |.frozenset _,_,_,x,_=>by cases x
 |.obj _ _,_,_,x,_=>by cases x
theorem Dw.readsAll(gR:yd P w H h)(KX:K.In h):∀(ds:List WData) (vs:List V) (us:List aj),vN K H vs ds->cZ vs us->∃as,ReadsAllW R cl h us ds as
 |[],_,_,x,r=>by
  cases x;cases r;exact⟨_,ReadsAllW.nil⟩
 |d::ds,_,_,x,r=>by
  cases x with
  |cons h1 h2=>
   cases r with
   |cons r1 r2=>
    obtain⟨as,q1⟩:=Dw.reads gR KX d _ _ h1 r1;obtain⟨bs,q2⟩:=Dw.readsAll gR KX ds _ _ h2 r2;exact⟨_,ReadsAllW.cons q1 q2⟩
end
end
mutual
def RB:WData->Bool
 |.none=>true
 |.bool _=>true
 |.int _=>true
 |.str _=>true
 |.bytes _=>true
 |.list xs=>Ew xs
 |.tuple xs=>Ew xs
 |_=>false
def Ew:List WData->Bool
 |[]=>true
 |x::r=>RB x&&Ew r
end
theorem MU{α:Type}{f:α->WData}(h:∀a,RB (f a)=true):∀l:List α,Ew (l.map f)=true
 |[]=>rfl
 |x::r=>by
  show(RB (f x)&&Ew (r.map f))=true;rw[h x,MU h r]<;>rfl
theorem wU:∀(c:Codec) (a:c.denote),RB (c.enc a)=true
 |.unit,_=>rfl
 |.bool,_=>rfl
 |.int _ _,_=>rfl
 |.nat _ _,_=>rfl
 |.u8,_=>rfl
 |.bytes _ _,_=>rfl
 |.text _ _ _ _,_=>rfl
 |.list _ _ c,a=>MU (fun x=>wU c x) a
 |.pair c d,a=>by
  show(RB (c.enc a.1)&&(RB (d.enc a.2)&&true))=true;rw[wU c a.1,wU d a.2]<;>rfl
 |.triple c d e,a=>by
  show(RB (c.enc a.1)&&(RB (d.enc a.2.1)&&(RB (e.enc a.2.2)&&true)))=true;rw[wU c a.1,wU d a.2.1,wU e a.2.2]<;>rfl
 |.option c,none=>rfl
 |.option c,some x=>wU c x
theorem IY:∀(cs:List Codec) (a:Codec.denoteAll cs),Ew (Codec.encAll cs a)=true
 |[],_=>rfl
 |c::cs,a=>by
  show(RB (c.enc a.1)&&Ew (Codec.encAll cs a.2))=true;rw[wU c a.1,IY cs a.2]<;>rfl
theorem zJ:∀ {xs:List WData} {d:WData},d∈xs->d.weight<=WData.weightAll xs
 |[],d,h=>absurd h (by simp)
 |x::r,d,h=>by
  show d.weight<=x.weight+1+WData.weightAll r;rcases aM.mp h with e|m
  ·rw[e];omega
  ·have z:=zJ m;omega
def toV:aj->V
 |.none=>.lC
 |.bool b=>.bl b
 |.int i _=>.int i
 |.str x _=>.str x
 |.bytes b _=>.OP b
 |.ref a=>.ref a
 |_=>.lC
def U8(A:List Addr):aj->Prop
 |.none=>True
 |.bool _=>True
 |.int _ _=>True
 |.str _ _=>True
 |.bytes _ _=>True
 |.ref a=>a∈A
 |_=>False
theorem U8.mono{A B:List Addr}(h:∀a∈A,a∈B):∀ {u:aj},U8 A u->U8 B u:=fun{u} x=>by
 cases u with
 |ref a=>exact h a x
 |none=>trivial
 |bool b=>trivial
 |int i t=>trivial
 |str s t=>trivial
 |bytes b t=>trivial
 |_=>exact fU x
theorem Wt{A:List Addr}{u:aj}(x:U8 A u):RelV (toV u) u:=by
 cases u with
 |ref a=>rfl
 |none=>rfl
 |bool b=>rfl
 |int i t=>exact⟨t,rfl⟩
 |str s t=>exact⟨t,rfl⟩
 |bytes b t=>exact⟨t,rfl⟩
 |_=>exact fU x
theorem tY{A:List Addr}:∀ {vs:List aj},(∀u∈vs,U8 A u)->cZ (vs.map toV) vs
 |[],_=>.nil
 |u::r,h=>.cons (Wt (h u (ah ..))) (tY fun x hx=>h x (aA _ hx))
def vO(h:Heap)(A:List Addr)(a:Addr):Prop:=∃vs:List aj,A3 (vs.length<=sizeLine) (∀u∈vs,U8 A u) (h.get? a=some {cls:=.type "list",data:=.seq vs.toArray}\/h.get? a=some {cls:=.type "tuple",data:=.seq vs.toArray})
theorem vO.mono{h:Heap}{A B:List Addr}{a:Addr}(k:∀a∈A,a∈B)(x:vO h A a):vO h B a:=by
 obtain⟨vs,h1,h2,h3⟩:=x;exact⟨vs,h1,fun u hu=>(h2 u hu).mono k,h3⟩
theorem rV{P:HF}{h:Heap}:∀ {vs:List aj} {ds:List WData},WellAll P h vs ds->vs.length=ds.length
 |_,_,.nil=>rfl
 |_,_,.cons _ b=>by
  show _+1=_+1;rw[rV b]
theorem Iz{P:HF}{h:Heap}{v:aj}{ds:List WData}(x:Well P h v (.list ds)):∃(a:Addr) (vs:List aj),v=.ref a/\h.get? a=some {cls:=.type "list",data:=.seq vs.toArray}/\WellAll P h vs ds:=by
 cases x with
 |list ho pO=>exact⟨_,_,rfl,ho,pO⟩
theorem FK{P:HF}{h:Heap}{v:aj}{ds:List WData}(x:Well P h v (.tuple ds)):∃(a:Addr) (vs:List aj),v=.ref a/\h.get? a=some {cls:=.type "tuple",data:=.seq vs.toArray}/\WellAll P h vs ds:=by
 cases x with
 |tuple ho pO=>exact⟨_,_,rfl,ho,pO⟩
theorem IA{P:HF}{h:Heap}{us:List aj}{d:WData}{ds:List WData}(x:WellAll P h us (d::ds)):∃(v:aj) (vs:List aj),us=v::vs/\Well P h v d/\WellAll P h vs ds:=by
 cases x with
 |cons a b=>exact⟨_,_,rfl,a,b⟩
theorem RQ{n:Nat}(h:n<=1048576):n<=sizeLine:=bN h (by decide)
section
variable {P:HF} {h:Heap}
mutual
theorem Yq:∀(d:WData) (v:aj),Well P h v d->RB d=true->d.weight<=1048576->∃A:List Addr,U8 A v/\∀a∈A,vO h A a
 |.none,_,x,_,_=>by
  cases x;exact⟨[],trivial,fun a m=>absurd m (by simp)⟩
 |.bool b,_,x,_,_=>by
  cases x;exact⟨[],trivial,fun a m=>absurd m (by simp)⟩
 |.int i,_,x,_,_=>by
  cases x;exact⟨[],trivial,fun a m=>absurd m (by simp)⟩
 |.str s,_,x,_,_=>by
  cases x;exact⟨[],trivial,fun a m=>absurd m (by simp)⟩
 |.bytes b,_,x,_,_=>by
  cases x;exact⟨[],trivial,fun a m=>absurd m (by simp)⟩
 |.list ds,_,x,p,z=>by
  obtain⟨a,vs,rfl,ho,pO⟩:=Iz x;have z2:WData.weightAll ds<=1048576:=z;obtain⟨A,h1,h2⟩:=BN ds _ pO p fun d hd=>bN (zJ hd) z2
  have k:∀b∈A,b∈a::A:=fun b hb=>aA _ hb
  refine⟨a::A,ah ..,fun b hb=>?_⟩;rcases aM.mp hb with e|m
  ·rw[e];exact⟨vs,RQ (by rw[rV pO];exact bN (EU ds) z2),fun u hu=>(h1 u hu).mono k,.inl ho⟩
  ·exact(h2 b m).mono k
 |.tuple ds,_,x,p,z=>by
  obtain⟨a,vs,rfl,ho,pO⟩:=FK x;have z2:WData.weightAll ds<=1048576:=z;obtain⟨A,h1,h2⟩:=BN ds _ pO p fun d hd=>bN (zJ hd) z2
  have k:∀b∈A,b∈a::A:=fun b hb=>aA _ hb
  refine⟨a::A,ah ..,fun b hb=>?_⟩;rcases aM.mp hb with e|m
  ·rw[e];exact⟨vs,RQ (by rw[rV pO];exact bN (EU ds) z2),fun u hu=>(h1 u hu).mono k,.inr ho⟩
  ·exact(h2 b m).mono k
 |.float _,_,_,p,_=>dY (show false=true from p)
 |.dict _,_,_,p,_=>dY (show false=true from p)
 |.bytearray _,_,_,p,_=>dY (show false=true from p)
 |.set _,_,_,p,_=>dY (show false=true from p)
 |.frozenset _,_,_,p,_=>dY (show false=true from p)
 |.obj _ _,_,_,p,_=>dY (show false=true from p)
theorem BN:∀(ds:List WData) (vs:List aj),WellAll P h vs ds->Ew ds=true->(∀d∈ds,d.weight<=1048576)->∃A:List Addr,(∀u∈vs,U8 A u)/\∀a∈A,vO h A a
 |[],_,x,_,_=>by
  cases x;exact⟨[],fun u m=>absurd m (by simp),fun a m=>absurd m (by simp)⟩
 |d::ds,_,x,p,z=>by
  obtain⟨v,vs,rfl,x1,x2⟩:=IA x;have q:RB d=true/\Ew ds=true:=S9.mp p;obtain⟨A,a1,a2⟩:=Yq d v x1 q.1 (z d (ah ..));obtain⟨B,b1,b2⟩:=BN ds vs x2 q.2 fun e he=>z e (aA _ he)
  have kA:∀b∈A,b∈A++B:=fun b hb=>aH.mpr (.inl hb)
  have kB:∀b∈B,b∈A++B:=fun b hb=>aH.mpr (.inr hb)
  refine⟨A++B,fun u hu=>?_,fun b hb=>?_⟩
  ·rcases aM.mp hu with e|m
   ·rw[e];exact a1.mono kA
   ·exact(b1 u m).mono kB
  ·rcases aH.mp hb with m|m
   ·exact(a2 b m).mono kA
   ·exact(b2 b m).mono kB
end
end
def aai(o:Obj):Option HO:=match o.data with
 |.seq vs _=>if (o.cls==pE "list")=true then some (.nu o (.lst (vs.toList.map toV)))else some (.nu o (.tup (vs.toList.map toV)))
 |_=>none
def vi(K:aq)(h:Heap)(A:List Addr):Hp:=fun b=>if b∈A then(if (K.lookup b).isNone=true then(h.get? b).bind aai else none)else none
def Oq(H:Hp):Prop:=∀b,H b=none\/E2 fun o u=>H b=some (.nu o u)
theorem ND(vs:List aj):aai {cls:=.type "list",data:=.seq vs.toArray}=some (.nu {cls:=.type "list",data:=.seq vs.toArray} (.lst (vs.map toV))):=by
 show(if (pE "list" ==pE "list")=true then some (HO.nu {cls:=.type "list",data:=.seq vs.toArray} (.lst (vs.toArray.toList.map toV)))else some (HO.nu {cls:=.type "list",data:=.seq vs.toArray} (.tup (vs.toArray.toList.map toV))))=_;rw[if_pos (beq_self_eq_true _)]
theorem NC(vs:List aj):aai {cls:=.type "tuple",data:=.seq vs.toArray}=some (.nu {cls:=.type "tuple",data:=.seq vs.toArray} (.tup (vs.map toV))):=by
 show(if (pE "tuple" ==pE "list")=true then some (HO.nu {cls:=.type "tuple",data:=.seq vs.toArray} (.lst (vs.toArray.toList.map toV)))else some (HO.nu {cls:=.type "tuple",data:=.seq vs.toArray} (.tup (vs.toArray.toList.map toV))))=_;rw[if_neg (by decide)]
section
variable {P:bw} {w:bQ} {K:aq} {h:Heap} {A:List Addr}
theorem Ft{b:Addr}{o:Obj}(hb:b∈A)(hk:K.lookup b=none)(e:h.get? b=some o):vi K h A b=aai o:=by
 unfold vi;rw[if_pos hb,hk,if_pos (show(none:Option Obj).isNone=true from rfl),e]<;>rfl
theorem ZU{b:Addr}{u:HO}(q:vi K h A b=some u):b∈A/\K.lookup b=none:=by
 unfold vi at q;by_cases hb:b∈A
 ·rw[if_pos hb]at q;cases hk:K.lookup b with
  |none=>exact⟨hb,rfl⟩
  |some o=>
   rw[hk,if_neg (by simp)]at q;cases q
 ·rw[if_neg hb]at q;cases q
theorem Fs(ar:∀a∈A,vO h A a){b:Addr}{u:HO}(q:vi K h A b=some u):K.lookup b=none/\∃vs:List aj,vs.length<=sizeLine/\(∀u∈vs,U8 A u)/\
  ((h.get? b=some {cls:=.type "list",data:=.seq vs.toArray}/\u=.nu {cls:=.type "list",data:=.seq vs.toArray} (.lst (vs.map toV)))\/
   (h.get? b=some {cls:=.type "tuple",data:=.seq vs.toArray}/\u=.nu {cls:=.type "tuple",data:=.seq vs.toArray} (.tup (vs.map toV)))):=by
 obtain⟨hb,hk⟩:=ZU q;obtain⟨vs,h1,h2,h3⟩:=ar b hb;refine⟨hk,vs,h1,h2,?_⟩;rcases h3 with e|e
 ·rw[Ft hb hk e,ND]at q;exact .inl ⟨e,(ax q).symm⟩
 ·rw[Ft hb hk e,NC]at q;exact .inr ⟨e,(ax q).symm⟩
theorem U3(ar:∀a∈A,vO h A a):Oq (vi K h A):=fun b=>by
 cases q:vi K h A b with
 |none=>exact .inl rfl
 |some u=>
  obtain⟨_,vs,_,_,⟨_,e⟩|⟨_,e⟩⟩:=Fs ar q
  ·exact .inr ⟨_,_,by rw[e]⟩
  ·exact .inr ⟨_,_,by rw[e]⟩
theorem aaN(ar:∀a∈A,vO h A a):yd P w (vi K h A) h:=fun b u q=>by
 obtain⟨_,vs,h1,h2,⟨e,rfl⟩|⟨e,rfl⟩⟩:=Fs ar q
 ·exact⟨e,by rw[ae];exact h1,vs,_,tY h2,e⟩
 ·exact⟨e,by rw[ae];exact h1,vs,tY h2,_,e,rfl,_,rfl⟩
theorem Fc{c c':aj}{vs us:List aj}(e:(some {cls:=c,data:=.seq vs.toArray}:Option Obj)=some {cls:=c',data:=.seq us.toArray}):c=c'/\vs=us:=by
 have e1:=ax e;have e2:c=c':=congrArg Obj.cls e1;have e3:SR vs.toArray=SR us.toArray:=congrArg Obj.data e1
 injection e3 with e4
 refine⟨e2,?_⟩;have e5:=congrArg OJ e4
 simpa using e5
theorem ajE(KX:K.In h)(ar:∀a∈A,vO h A a){a:Addr}{vs:List aj}(ha:a∈A)(e:h.get? a=some {cls:=.type "list",data:=.seq vs.toArray}):(∀u∈vs,U8 A u)/\bW K (vi K h A) a (vs.map toV):=by
 obtain⟨us,h1,h2,h3⟩:=ar a ha;have hu:us=vs:=by
  rcases h3 with q|q
  ·rw[e]at q;exact(Fc q).2.symm
  ·rw[e]at q;exact absurd (SQ (Fc q).1) (by decide)
 subst hu;refine⟨h2,?_⟩;cases hk:K.lookup a with
 |none=>exact .inl (.inr ⟨_,by rw[Ft ha hk e,ND]⟩)
 |some o=>
  have e2:=KX a o hk;rw[e]at e2;obtain rfl:=ax e2;exact .inr ⟨_,us.toArray,_,hk,rfl,rfl,rfl,by rw[aZ];exact h1,by simpa using tY h2⟩
theorem ajD(KX:K.In h)(ar:∀a∈A,vO h A a){a:Addr}{vs:List aj}(ha:a∈A)(e:h.get? a=some {cls:=.type "tuple",data:=.seq vs.toArray}):(∀u∈vs,U8 A u)/\wa K (vi K h A) a (vs.map toV):=by
 obtain⟨us,h1,h2,h3⟩:=ar a ha;have hu:us=vs:=by
  rcases h3 with q|q
  ·rw[e]at q;exact absurd (SQ (Fc q).1) (by decide)
  ·rw[e]at q;exact(Fc q).2.symm
 subst hu;refine⟨h2,?_⟩;cases hk:K.lookup a with
 |none=>exact .inl (.inr ⟨_,by rw[Ft ha hk e,NC]⟩)
 |some o=>
  have e2:=KX a o hk;rw[e]at e2;obtain rfl:=ax e2;exact .inr ⟨_,us.toArray,_,hk,rfl,rfl,by rw[aZ];exact h1,by simpa using tY h2⟩
mutual
theorem adN{Pm:HF}(KX:K.In h)(ar:∀a∈A,vO h A a):∀(d:WData) (v:aj),Well Pm h v d->RB d=true->U8 A v->Dw K (vi K h A) (toV v) d
 |.none,_,x,_,_=>by
  cases x;exact .lC
 |.bool b,_,x,_,_=>by
  cases x;exact .bl b
 |.int i,_,x,_,_=>by
  cases x;exact .int i
 |.str s,_,x,_,_=>by
  cases x;exact .str s
 |.bytes b,_,x,_,_=>by
  cases x;have z:=Dw.OP (K:=K) (H:=vi K h A) b.toArray;exact z
 |.list ds,_,x,p,hu=>by
  obtain⟨a,vs,rfl,ho,pO⟩:=Iz x;obtain⟨h2,hs⟩:=ajE KX ar hu ho;exact .lst hs (Lh KX ar ds _ pO p h2)
 |.tuple ds,_,x,p,hu=>by
  obtain⟨a,vs,rfl,ho,pO⟩:=FK x;obtain⟨h2,hs⟩:=ajD KX ar hu ho;exact .tup hs (Lh KX ar ds _ pO p h2)
 |.float _,_,_,p,_=>dY (show false=true from p)
 |.dict _,_,_,p,_=>dY (show false=true from p)
 |.bytearray _,_,_,p,_=>dY (show false=true from p)
 |.set _,_,_,p,_=>dY (show false=true from p)
 |.frozenset _,_,_,p,_=>dY (show false=true from p)
 |.obj _ _,_,_,p,_=>dY (show false=true from p)
theorem Lh{Pm:HF}(KX:K.In h)(ar:∀a∈A,vO h A a):∀(ds:List WData) (vs:List aj),WellAll Pm h vs ds->Ew ds=true->(∀u∈vs,U8 A u)->vN K (vi K h A) (vs.map toV) ds
 |[],_,x,_,_=>by
  cases x;exact .nil
 |d::ds,_,x,p,hu=>by
  obtain⟨v,vs,rfl,x1,x2⟩:=IA x;have q:RB d=true/\Ew ds=true:=S9.mp p;exact .cons (adN KX ar d v x1 q.1 (hu _ (ah ..))) (Lh KX ar ds vs x2 q.2 fun u m=>hu u (aA _ m))
end
end
theorem Tu{P:bw}{w:bQ}{K:aq}{mg mb:Str->Option aj}{CX:SN}{k:Nat}{fa:Addr}{fd:FuncData}{ps:List Str}{sp:Sp}{s₁:au}{vals:List aj}{ds:List WData}{R:Vg}{cl:Str->Option Addr}{d0:WData}
  (KX:K.In s₁.heap)(hns:s₁.heap.Ns mainGlobals mg)(hb:s₁.heap.Ns builtinsNs mb)(hbb:∀x:Str,x≠ "__name__" ->mb x=bootBuiltins x)(aiD:s₁.heap.NoLimit)(hg:s₁.gens=#[])
  (hwl:WellAll w.params s₁.heap vals ds)(tQ:Ew ds=true)(hwt:∀d∈ds,d.weight<=1048576)(hr:nE k callerA)
  (F:∀base:Heap,K.In base->base.Ns mainGlobals mg->cF P w K mg base CX k fa fd ps sp)(afS:∀(s:au) (us:List aj),us.length=ps.length->OS s fd ⟨us,[]⟩ (ps.zip us))(hlen:ds.length=ps.length)
  (Sb:∀(H:Hp) (xs:List V),Oq H->vN K H xs ds->sp xs H (fun v H'=>Dw K H' v d0) fun _ _ _=>False)
  (hCX:∀H e s',CX [] H s₁ (fun _ _ _=>False) e s'->False):
  codeAny (model P w) callerA (.call (.ref fa) ⟨vals,[]⟩) (fun r s'=>∃u as,r=.ok (.ret u)/\ReadsW R cl s'.heap u d0 as/\OldK s₁.heap s'.heap/\s'.os=s₁.os/\Ir s'.gens) s₁:=by
 obtain⟨A,ho,ar⟩:=BN ds vals hwl tQ hwt;have hO:Oq (vi K s₁.heap A):=U3 ar;have gR:yd P w (vi K s₁.heap A) s₁.heap:=aaN ar;have hS:=Lh KX ar ds vals hwl tQ ho;have hV:=tY ho;have hK:∀b u,vi K s₁.heap A b=some u->K.lookup b=none:=fun b u q=>(Fs ar q).1
 have noA:∀ {b:Addr} {o:Obj} {es:Array Vx} {ep:Nat},s₁.heap.get? b=some o->o.data=.dict es ep->vi K s₁.heap A b=none:=fun{b o es ep} e d=>by
  cases q:vi K s₁.heap A b with
  |none=>rfl
  |some u=>
   obtain⟨_,vs,_,_,⟨e2,_⟩|⟨e2,_⟩⟩:=Fs ar q
   ·rw[e2]at e;cases e;have d':SR vs.toArray _=Data.dict es ep:=d;cases d'
   ·rw[e2]at e;cases e;have d':SR vs.toArray _=Data.dict es ep:=d;cases d'
 generalize vi K s₁.heap A=H at hO gR hS hK noA;have SE:∀ {b:Addr} {o:Obj},s₁.heap.get? b=some o->H b=none->(K4 s₁.heap H).get? b=some o:=fun e n=>Xz e n
 have nsK:∀ {b:Addr} {m:Str->Option aj},s₁.heap.Ns b m->(K4 s₁.heap H).Ns b m:=fun{b m} ⟨o,es,ep,e,d,r⟩=>⟨o,es,ep,SE e (noA e d),d,r⟩
 have nK:∀b o,K.lookup b=some o->H b=none:=fun b o e=>by
  cases q:H b with
  |none=>rfl
  |some u=>
   rw[hK b u q]at e;cases e
 have hKb:K.In (K4 s₁.heap H):=fun b o e=>SE (KX b o e) (nK b o e)
 have hM:Mod K mg (K4 s₁.heap H):=⟨hKb,nsK hns,⟨mb,nsK hb,hbb⟩,let ⟨mc,h1,h2⟩:=aiD;⟨mc,nsK h1,h2⟩⟩;have e0:QP P w K mg (K4 s₁.heap H) callerA [] s₁ H:=⟨rfl,hM,fun b o e=>ZT e,E6 (Uy _ _),trivial,fun b hb=>absurd (show b∈([]:List Addr)from hb) (by simp),gR,.of_eq hg⟩;have hl:vals.length=ps.length:=by rw[rV hwl];exact hlen
 refine mE ((F _ hKb (nsK hns)).run callerA [] s₁ H ⟨vals,[]⟩ vals (vals.map toV) _ _ hr e0 (afS s₁ vals hl) hV (Sb H _ hO hS)) fun r s' x=>?_
 cases r with
 |error e=>exact(hCX H e s' x).elim
 |ok fl=>
  cases fl with
  |next=>exact fU x
  |brk=>exact fU x
  |cont=>exact fU x
  |ret u=>
   obtain⟨v,H',os,bare,un,afC,r',q⟩:=x;have kept:∀b o,s₁.heap.get? b=some o->s'.heap.get? b=some o:=fun b o e=>by
    cases q2:H b with
    |none=>exact un.keep b o e q2 (by intro z;exact absurd (show b∈([]:List Addr)from z) (by simp)) (by simp)
    |some u2=>
     rcases hO b with z|⟨ob,u3,z⟩
     ·rw[q2]at z;cases z
     ·have z2:=un.Hc b ob _ z;obtain⟨e1,_⟩:=gR b _ z;obtain⟨e2,_⟩:=afC b _ z2;rw[e]at e1;cases e1;exact e2
   have KX':K.In s'.heap:=fun b o e=>kept b o (KX b o e)
   obtain⟨as,LQ⟩:=Dw.reads (R:=R) (cl:=cl) afC KX' d0 v u q r';exact⟨u,as,rfl,LQ,OldK.of_keep kept,os,bare⟩
theorem G0{ds:List WData}(h:WData.layableAll ds=true):∀d∈ds,d.weight<=1048576:=fun d hd=>
 (PySem.W.layableW_iff.mp (bD.mp h d hd)).2.2
theorem Hi:∀(cs:List Codec) (a:Codec.denoteAll cs),(Codec.encAll cs a).length=cs.length
 |[],_=>rfl
 |c::cs,a=>by
  show(Codec.encAll cs a.2).length+1=cs.length+1;rw[Hi cs a.2]
theorem Tc{r:OpenSpec}{k:Nat}{q:bw}{loose:List Str}{XP:(Str->Option aj)->Heap->Prop}{YP:bQ->Heap->Prop}{d:DefRec}{K:HF->aq}{CX:bQ->SN}{ps:List Str}{sp:bQ->Sp}
  (Xm:r.wellSaid=true)(hdf:d.params.defaults=[])(hlen:r.args.length=ps.length)(hr:nE k callerA)
  (hY:∀(w:bQ) (h:Heap),YP w h->(K w.params).In h)
  (F:∀(w:bQ) (mg:Str->Option aj) (fa:Addr) (h:Heap),YP w h->(K w.params).In h->h.Ns mainGlobals mg->mg d.name=some (.ref fa)->
   ∃fd:FuncData,(∀(s:au) (us:List aj),us.length=ps.length->OS s fd ⟨us,[]⟩ (ps.zip us))/\
    ∀base:Heap,(K w.params).In base->base.Ns mainGlobals mg->cF r.prog w (K w.params) mg base (CX w) k fa fd ps (sp w))
  (Sb:∀(w:bQ) (H:Hp) (xs:List V) (a:Codec.denoteAll r.args),Oq H->Codec.withinAll r.args a=true->Codec.app r.args r.asked a=true->vN (K w.params) H xs (Codec.encAll r.args a)->
   sp w xs H (fun v H'=>Dw (K w.params) H' v (r.ret.enc (Codec.app r.args r.f a))) fun _ _ _=>False)
  (hCX:∀(w:bQ) (H:Hp) (s:au) (e:aj) (s':au),CX w [] H s (fun _ _ _=>False) e s'->False):
  YD q loose XP YP r d [] (fun f vs=>PySem.call f vs):=by
 intro w II s₁ mg mb G Y fa o pm cd doc dV kV ho hd UA hD hmg hg args vals as aip aiG LQ hwl hlo;obtain⟨a,e1,e2⟩:=PySem.W.os_pre_some aip;obtain⟨e3,hwi⟩:=Codec.encAll_of_decAll r.args args a e1;subst e3;have KX:=hY w _ Y;obtain⟨fd,hb,hF⟩:=F w mg fa _ Y KX G.T.g hmg;refine PySem.W.enter_call (mE (Tu (R:=[]) (cl:=classAt II.heap) (d0:=r.ret.enc (Codec.app r.args r.f a)) KX G.T.g G.T.b G.T.builtins G.T.nolimit hg hwl (IY _ _) (G0 aiG) hr hF hb (by rw[Hi];exact hlen)
  (fun H xs hO hS=>Sb w H xs a hO hwi e2 hS) fun H e s'=>hCX w H s₁ e s') fun r' s' hq=>?_)
 obtain⟨u,as',rfl,h1,h2,h3,h4⟩:=hq;exact⟨.inl ⟨u,_,as',rfl,fun _=>rfl,h1,(OpenSpec.post_iff Xm hwi _ _).mpr rfl,fun z=>dY (show false=true from z)⟩,h2,h3,h4⟩
theorem O5{r:OpenSpec}{k:Nat}{q:bw}{loose:List Str}{XP:(Str->Option aj)->Heap->Prop}{YP:bQ->Heap->Prop}{d:DefRec}{K:HF->aq}{CX:SN}{ps:List Str}{sp:aq->Sp}
  (Xm:r.wellSaid=true)(hdf:d.params.defaults=[])(hlen:r.args.length=ps.length)(hr:nE k callerA)
  (hY:∀(w:bQ) (h:Heap),YP w h->(K w.params).In h)
  (F:∀(w:bQ) (mg:Str->Option aj) (fa:Addr) (h:Heap),YP w h->(K w.params).In h->h.Ns mainGlobals mg->mg d.name=some (.ref fa)->
   ∃fd:FuncData,(∀(s:au) (us:List aj),us.length=ps.length->OS s fd ⟨us,[]⟩ (ps.zip us))/\
    ∀base:Heap,(K w.params).In base->base.Ns mainGlobals mg->cF r.prog w (K w.params) mg base CX k fa fd ps (sp (K w.params)))
  (Sb:∀(K:aq) (H:Hp) (xs:List V) (a:Codec.denoteAll r.args),Oq H->Codec.withinAll r.args a=true->Codec.app r.args r.asked a=true->vN K H xs (Codec.encAll r.args a)->
   sp K xs H (fun v H'=>Dw K H' v (r.ret.enc (Codec.app r.args r.f a))) fun _ _ _=>False)
  (hCX:∀(H:Hp) (s:au) (e:aj) (s':au),CX [] H s (fun _ _ _=>False) e s'->False):
  YD q loose XP YP r d [] (fun f vs=>PySem.call f vs):=
 Tc (K:=K) (CX:=fun _=>CX) (sp:=fun w=>sp (K w.params)) Xm hdf hlen hr hY F (fun w H xs a h1 h2 h3 h4=>Sb (K w.params) H xs a h1 h2 h3 h4) fun _ H s e s'=>hCX H s e s'
end L2
end
namespace Pd
open PySem PyProof.Rows
section
variable {prog:bw} {w:bQ} {A:cR} {E:aj->au->Prop} {s:au}
theorem WY{T newId:String}{self:aj}{rest:List aj}{t:Vv}(hl:typeLookup (.type T) "__init__" =pure (some (.builtin "object.__init__")))
  (hm:Bind.madeBy (.type T)=pure (some newId))(j1:(some newId != some "object.__new__")=true):
  Meets (n0.«object.__init__» ⟨self::rest,kw1 t⟩) (fun _ R s=>s.TypeIs self T/\R (.ok (.ret .none)) s):=by
 refine Meets.of_wp fun prog w A R s hs=>?_
 obtain⟨hT,hq⟩:=hs;cases rest with
 |nil=>
  repeat (any_goals (first|assumption|wp_step))
  exact⟨_,rfl,hq⟩
 |cons a rest=>
  repeat (any_goals (first|assumption|wp_step))
  exact⟨_,rfl,hq⟩
theorem aaC{l:Addr}{items:Array aj}{t:Vv}{Q:aj->au->Prop}(hL:s.heap.IsList l items)
  (h:∀h',yg h' (s.heap.objs.size+1) s.heap.objs.size 1 .none->h'.IsListIter s.heap.objs.size l 0->(∀b o,s.heap.get? b=some o->h'.get? b=some o)->Q (.ref (s.heap.objs.size+1)) {s with heap:=h'}):
  wpAny (model prog w) A (call (.type "enumerate") [.ref l] (kw1 t)) Q E s:=by
 obtain⟨⟨c0,dct,dt,sl⟩,hl,hc,n,hd⟩:=hL
 replace hc:c0=.type "list" :=hc
 replace hd:dt=.seq items n:=hd
 subst hc hd;have ft:=F.called_enumerate;obtain⟨c,tl,m0⟩:=ft.mro;have m1:=ft.made;have m2:=ft.sub;have m3:=ft.notType;have m4:=ft.canCreate;have m5:=NX (.ref l) t;have hz:(s.heap.push {cls:=.type "list_iterator",data:=.fields #[.ref l,.int 0 0]}).objs.size=s.heap.objs.size+1:=Heap.size_push ..;have he:yg ((s.heap.push {cls:=.type "list_iterator",data:=.fields #[.ref l,.int 0 0]}).push {cls:=.type "enumerate",data:=.fields #[.none,.bool false,.ref s.heap.objs.size,rawInt 1,.none,.none]}) (s.heap.objs.size+1) s.heap.objs.size 1 .none:=by
  have:=Heap.get?_push_size (s.heap.push {cls:=.type "list_iterator",data:=.fields #[.ref l,.int 0 0]}) (o:={cls:=.type "enumerate",data:=.fields #[.none,.bool false,.ref s.heap.objs.size,rawInt 1,.none,.none]}) rfl;rw[hz]at this;exact this
 have fin:=h _ he ⟨_,Heap.get?_push_of_some _ (Heap.get?_push_size _ rfl),rfl,rfl⟩ fun b o x=>Heap.get?_push_of_some _ (Heap.get?_push_of_some _ x)
 refine QS (OE (show wpAny _ _ (callAny (.type "enumerate") _) _ _ _ from aD ⟨Vy _ (by decide+kernel),lj F.entry_type_call ?_⟩));rw[SS (Y4 "enumerate" [.ref l] (kw1 t)) (units_type_call_type "enumerate" [.ref l] (kw1 t))]
 repeat (any_goals (first|assumption|wp_step))
 refine mE (Df (R:=wants (fun obj s1=>obj=.ref (s.heap.objs.size+1)/\s1={s with heap:=(s.heap.push {cls:=.type "list_iterator",data:=.fields #[.ref l,.int 0 0]}).push {cls:=.type "enumerate",data:=.fields #[.none,.bool false,.ref s.heap.objs.size,rawInt 1,.none,.none]}}) E) ft.plain F.entry_enumerate_new (wpAny_of_eq (Qv (.ref l) t) (adL l items n dct sl t prog w A.in1 _ s ⟨hl,by rw[hz];exact⟨rfl,rfl⟩⟩))) fun r s1 hr=>?_
 match r,hr with
 |.error e,hr=>exact hr
 |.ok (.ret ob),hr=>
  obtain⟨rfl,rfl⟩:=hr;have hT:JQ {s with heap:=(s.heap.push {cls:=.type "list_iterator",data:=.fields #[.ref l,.int 0 0]}).push {cls:=.type "enumerate",data:=.fields #[.none,.bool false,.ref s.heap.objs.size,rawInt 1,.none,.none]}} (.ref (s.heap.objs.size+1)) "enumerate" :=⟨_,he,rfl⟩;have hli:=ft.init.lookup;have hbi:=ft.init.bind (.ref (s.heap.objs.size+1))
  repeat (any_goals (first|assumption|wp_step))
  refine mE (Df (R:=wants (fun r s2=>r=.none/\s2={s with heap:=(s.heap.push {cls:=.type "list_iterator",data:=.fields #[.ref l,.int 0 0]}).push {cls:=.type "enumerate",data:=.fields #[.none,.bool false,.ref s.heap.objs.size,rawInt 1,.none,.none]}}) E) ft.init.plain F.entry_object_init (ft.init.check _ _ _ _ _ _ _ _ hT (aaB _ _ t) (WY ft.init.lookup ft.made (by decide) prog w A.in1 _ _ ⟨hT,rfl,rfl⟩))) fun r2 s2 Nz=>?_
  match r2,Nz with
  |.error e,Nz=>exact Nz
  |.ok (.ret r),Nz=>
   obtain⟨rfl,rfl⟩:=Nz
   repeat (any_goals (first|assumption|wp_step))
theorem aaz{e it l:Addr}{i:Nat}{c:Int}{items:Array aj}{x old:aj}{Q:aj->au->Prop}
  (he:yg s.heap e it c old)(hit:s.heap.IsListIter it l i)(hl:s.heap.IsList l items)(hx:items[i]? =some x)(j1:e≠it)
  (hQ:∀h',Vw h' e it (c+1) x s.heap.objs.size->h'.IsListIter it l (i+1)->h'.get? s.heap.objs.size=some {cls:=.type "tuple",data:=.seq #[.int c s.toks,x]}->
   (∀b o,b≠e->b≠it->s.heap.get? b=some o->h'.get? b=some o)->Q (.ref s.heap.objs.size) {s with heap:=h',toks:=s.toks+1}):
  wpAny (model prog w) A (n0.«enumerate.__next__» ⟨[.ref e],[]⟩) (fun fin s'=>∃v,fin=.done (.ret v)/\Q v s') E s:=by
 obtain⟨hp,g,d,tk,os⟩:=s;have YU:e<hp.objs.size:=Heap.lt_size he;refine show wpAny _ _ (field (.ref e) 2 >>= _) _ _ _ from ag (wc he rfl (x:=.ref it) rfl ?_)
 refine ag (wpAny_nextOf_list_item hit hl hx fun h1 t1 s1=>?_);have s1:Heap.SameBut it hp h1:=s1;have e1:yg h1 e it c old:=(s1.2 e j1).trans he;refine show wpAny _ _ (field (.ref e) 3 >>= _) _ _ ⟨h1,g,d,tk,os⟩from ag (wc e1 rfl (x:=rawInt c) rfl ?_)
 refine show wpAny _ _ (field (.ref e) 4 >>= _) _ _ ⟨h1,g,d,tk,os⟩from ag (wc e1 rfl (x:=.none) rfl ?_)
 refine show wpAny _ _ (mkInt c >>= _) _ _ ⟨h1,g,d,tk,os⟩from ag (wpAny_mkInt ?_)
 refine show wpAny _ _ (setField (.ref e) 3 (rawInt (c+1)) >>= _) _ _ ⟨h1,g,d,tk+1,os⟩from ag (ic e1 (by simp) fun h2 e2 s2=>?_)
 have s2:Heap.SameBut e h1 h2:=s2;have e2:yg h2 e it (c+1) old:=e2;refine show wpAny _ _ (setField (.ref e) 4 .none >>= _) _ _ ⟨h2,g,d,tk+1,os⟩from ag (ic e2 (by simp) fun h3 e3 s3=>?_)
 have s3:Heap.SameBut e h2 h3:=s3;have e3:yg h3 e it (c+1) old:=e3;refine show wpAny _ _ (newTuple [.int c tk,x] >>= _) _ _ ⟨h3,g,d,tk+1,os⟩from ag (wpAny_newTuple ?_)
 have hsz:h3.objs.size=hp.objs.size:=by rw[s3.1,s2.1,s1.1]
 have e4:yg (h3.push {cls:=.type "tuple",data:=.seq #[.int c tk,x]}) e it (c+1) old:=Heap.get?_push_of_some _ e3;have t4:(h3.push {cls:=.type "tuple",data:=.seq #[.int c tk,x]}).get? hp.objs.size=some {cls:=.type "tuple",data:=.seq #[.int c tk,x]}:=by rw[<-hsz];exact Heap.get?_push_size _ rfl
 have k4:∀b o,b≠e->b≠it->hp.get? b=some o->(h3.push {cls:=.type "tuple",data:=.seq #[.int c tk,x]}).get? b=some o:=fun b o Ql hbi hb=>Heap.get?_push_of_some _ (s3.extBut b o Ql (s2.extBut b o Ql (s1.extBut b o hbi hb)))
 have i4:(h3.push {cls:=.type "tuple",data:=.seq #[.int c tk,x]}).IsListIter it l (i+1):=by
  obtain⟨o,ho,r⟩:=(t1.extBut s2.extBut (bT j1)).extBut s3.extBut (bT j1);exact⟨o,Heap.get?_push_of_some _ ho,r⟩
 show wpAny _ _ (tT (.ref e) >>= _) _ _ ⟨h3.push {cls:=.type "tuple",data:=.seq #[.int c tk,x]},g,d,tk+1,os⟩;rw[hsz];generalize h3.push {cls:=.type "tuple",data:=.seq #[.int c tk,x]}=h4 at e4 t4 k4 i4;refine ag ?_;unfold tT;refine ag (wc e4 rfl (x:=.none) rfl (aD ?_));simp only[if_true];refine ag (QQ (ag (wc e4 rfl (x:=old) rfl ?_)));refine ag (ic e4 (by simp) fun h5 e5 s5=>?_);have s5:Heap.SameBut e h4 h5:=s5;have e5:yg h5 e it (c+1) x:=e5;refine show wpAny _ _ (tf (.ref e) (.ref hp.objs.size) >>= _) _ _ ⟨h5,g,d,tk+1,os⟩from ag ?_
 unfold tf;refine ag (ic e5 (by simp) fun h6 e6 s6=>?_);have s6:Heap.SameBut e h5 h6:=s6;have e6:Vw h6 e it (c+1) x hp.objs.size:=e6;refine ic e6 (by simp) fun h7 e7 s7=>?_
 have s7:Heap.SameBut e h6 h7:=s7;have e7:Vw h7 e it (c+1) x hp.objs.size:=e7;have nt:=lO YU;exact ag (wpAny_letGo (aD ⟨_,rfl,hQ h7 e7 (((i4.extBut s5.extBut (bT j1)).extBut s6.extBut (bT j1)).extBut s7.extBut (bT j1)) (s7.extBut _ _ nt (s6.extBut _ _ nt (s5.extBut _ _ nt t4))) fun b o Ql hbi hb=>s7.extBut b o Ql (s6.extBut b o Ql (s5.extBut b o Ql (k4 b o Ql hbi hb)))⟩))
theorem aaA{e it l:Addr}{i:Nat}{c:Int}{items:Array aj}{x old:aj}{Q:Option aj->au->Prop}
  (he:yg s.heap e it c old)(hit:s.heap.IsListIter it l i)(hl:s.heap.IsList l items)(hx:items[i]? =some x)(j1:e≠it)
  (hQ:∀h',Vw h' e it (c+1) x s.heap.objs.size->h'.IsListIter it l (i+1)->h'.get? s.heap.objs.size=some {cls:=.type "tuple",data:=.seq #[.int c s.toks,x]}->
   (∀b o,b≠e->b≠it->s.heap.get? b=some o->h'.get? b=some o)->Q (some (.ref s.heap.objs.size)) {s with heap:=h',toks:=s.toks+1}):
  wpAny (model prog w) A (pyNext (.ref e)) Q E s:=by
 have hT:s.TypeIs (.ref e) "enumerate" :=⟨_,he,rfl⟩;unfold pyNext;exact ag (Fy (o4 (name:=Str.ofString "__next__") hT km (ja km hT EW (aaz he hit hl hx j1 fun h' a b c k=>aD (hQ h' a b c k)) (Ek _))))
theorem adM{e it l:Addr}{i:Nat}{c:Int}{items:Array aj}{old:aj}{Q:Option aj->au->Prop}(hh:A.handled=none)
  (he:yg s.heap e it c old)(hit:s.heap.IsListIter it l i)(hl:s.heap.IsList l items)(hx:items[i]? =none)(hQ:∀h',Heap.ExtBut it s.heap h'->Q none {s with heap:=h'}):wpAny (model prog w) A (pyNext (.ref e)) Q E s:=by
 have hT:s.TypeIs (.ref e) "enumerate" :=⟨_,he,rfl⟩;unfold pyNext;refine ag (Fy (o4 (name:=Str.ofString "__next__") hT km (ja km hT EW ?_ (Ek _))));refine show wpAny _ _ (field (.ref e) 2 >>= _) _ _ _ from ag (wc he rfl (x:=.ref it) rfl ?_)
 refine ag (wpAny_nextOf_list_end hh hit hl hx fun h' x Se ⟨o,ho,hc⟩=>?_);exact ag (rF (b:=true) (T:="StopIteration") ⟨o,ho,hc⟩ isSubtype_stop (aD (hQ _ Se)))
end
end Pd
namespace L2
open PySem PySem.Spec PyProof.Rows
section
variable {X:Cx}
theorem bS{x:Str}{n:Int}{pos:sY}(hg:Gl X x)(hm:∃t,X.mg x=some (.int n t))(hd:(x==("__debug__" :Str))=false:=by decide):PE X (.Name x pos) (tC (.int n)):=by
 obtain⟨t,e⟩:=hm;exact RE hg e ⟨t,rfl⟩ hd
theorem wV{x:Str}{a:Addr}{pos:sY}(hg:Gl X x)(hm:X.mg x=some (.ref a))(hd:(x==("__debug__" :Str))=false:=by decide):PE X (.Name x pos) (tC (.ref a)):=RE (v:=.ref a) hg hm rfl hd
def agF(i j:Int):Prop:=0<j/\j.natAbs.log2<9000
theorem WR:EO X (binaryOp .FloorDiv) (rI agF fun i j=>.int (i/j)):=opI fun i j _ _ _ _ _ hc q=>by
 have h1:(0:Int)<j:=hc.1;exact floordiv_int (by omega) (by rw[Int.fdiv_eq_ediv_of_nonneg i (by omega)];exact q) (.inl (PyProof.noPylong_of_log2 hc.2))
def WA(K:aq):List V->Hp->VK->Prop:=fun vs H Q=>E2 fun(a:Addr) (ns:List Int)=>A3 (vs=[V.ref a]) (bW K H a (ns.map V.int)) (∀(ns':List Int) (p:Addr),ns'.Perm ns->ns'.Pairwise (· <= ·)->H p=none->Q (.ref p) (upd H p (.lst (ns'.map V.int))))
theorem Qx:pZ X (.builtin "sorted") (WA X.K):=by
 intro pins s σ H vs us Q I r h;obtain⟨a,ns,rfl,hs,q⟩:=h;obtain⟨dh,rv,hl,hz⟩:=I.list hs;rw[cZ.Kt r];have hi:=rv.ints;have hz':ns.length<=sizeLine:=by rw[ae]at hz;exact hz
 refine PyProof.Rows.sorted_intsAny hl.isList hi (by rw[hi.length];exact hz') fun out ns' h1 h2 h3=>?_
 obtain⟨ep,Se⟩:=PyProof.Rows.sortedAll_at s.heap dh out;have hlen:(ns'.map V.int).length<=sizeLine:=by rw[ae,h2.length_eq];exact hz'
 exact⟨.ref _,upd H (s.heap.objs.size+1) (.lst (ns'.map V.int)),I.laid (t':=s.toks) (fun _ _=>PyProof.Rows.sortedAll_old) (iV _) ⟨hlen,out.toList,ep,uP h1,Se⟩,rfl,q ns' _ h2 h3 (I.gR.fresh (iV _))⟩
theorem yo{xs:List V}{us:List aj}(r:cZ xs us):∀(ks:List Nat),cZ (ks.filterMap (xs[·]?)) (ks.filterMap (us[·]?))
 |[]=>.nil
 |k::ks=>by
  rw[gD,gD];cases e:xs[k]? with
  |none=>
   rw[r.none_of e];exact yo r ks
  |some x=>
   obtain⟨u,h1,h2⟩:=r.get e;rw[h1];exact .cons h2 (yo r ks)
def Gw(xs:List V)(lo hi st:Option Int):List V:=
 (sliceRange (sliceBounds lo hi st xs.length).1 (sliceBounds lo hi st xs.length).2.1 (sliceBounds lo hi st xs.length).2.2).filterMap (xs[·]?)
def aeD(K:aq)(te:TE)(tl th tp:TO):TE:=fun σ H Q=>te σ H fun x H1=>tl σ H1 fun l H2=>th σ H2 fun u H3=>tp σ H3 fun st H4=>E2 fun a xs=>A4 (x=.ref a) (bW K H4 a xs) (st≠some 0) (∀p,H4 p=none->Q (.ref p) (upd H4 p (.lst (Gw xs l u st))))
theorem yw{e:de}{lo hi:Option de}{st:de}{te:TE}{tl th tp:TO}{p2 pos:sY}(he:PE X e te)(hl:PO X lo tl)(hu:PO X hi th)(hp:PO X (some st) tp):PE X (.Subscript e (.Slice lo hi (some st) p2) pos) (aeD X.K te tl th tp):=by
 intro pins s σ H Q I h;refine Subscript_ (iW (he pins s σ H _ I h) fun v s1 ⟨x,H1,I1,r1,q1⟩=>?_);refine wpAny_Slice (iW (hl pins s1 σ H1 _ I1 q1) fun vl s2 ⟨l,H2,I2,pl,q2⟩=>iW (hu pins s2 σ H2 _ I2 q2) fun vu s3 ⟨u,H3,I3,pu,q3⟩=>iW (hp pins s3 σ H3 _ I3 q3) fun vp s4 ⟨p,H4,I4,pp,q4⟩=>?_);obtain⟨a,xs,rfl,hx,h0,q⟩:=q4;cases r1;have I5:Inv X pins σ H4 {s4 with heap:=s4.heap.push {cls:=.type "slice",data:=.fields #[vl,vu,vp]}}:=I4.kept (t':=s4.toks) fun b ob q=>Heap.get?_push_of_some _ q
 obtain⟨dh,r,ht,hz⟩:=I5.list hx;have hlen:=r.length;show wpAny (model X.prog X.w) X.A (subscriptTail e (.Slice lo hi (some st) p2) (.ref a) (.ref s4.heap.objs.size)) (EP X pins σ Q) X.xe {s4 with heap:=s4.heap.push {cls:=.type "slice",data:=.fields #[vl,vu,vp]}};refine tail_any (ops:=[.ref a,.ref s4.heap.objs.size]) ht.isList.typeIs Ij.lookup ?_ (by with_unfolding_all rfl);refine Vc ht.isList (Heap.IsSliceOf.new ..) pl pu pp h0 ?_ (by rw[aZ]<;>omega);have e1:slicePick dh.toArray l u p=((sliceRange (sliceBounds l u p xs.length).1 (sliceBounds l u p xs.length).2.1 (sliceBounds l u p xs.length).2.2).filterMap (dh[·]?)).toArray:=by
  unfold slicePick;rw[aZ,<-hlen];simp only[List.getElem?_toArray]
 have e2:(Gw xs l u p).length<=xs.length:=by
  have h1:=slicePick_size_le dh.toArray l u p;rw[e1,aZ,aZ]at h1;have h2:=(yo r (sliceRange (sliceBounds l u p xs.length).1 (sliceBounds l u p xs.length).2.1 (sliceBounds l u p xs.length).2.2)).length;unfold Gw;omega
 rw[e1];refine⟨.ref _,_,I5.laid (t':=s4.toks) (o:=.lst (Gw xs l u p)) (fun b ob q=>Heap.get?_push_of_some _ q) (ao _) ?_,rfl,q _ (I5.gR.fresh (ao _))⟩;exact⟨bN e2 hz,_,0,yo r _,Heap.get?_push_size _ rfl⟩
def ZD(K:aq):List V->Hp->VK->Prop:=fun xs H Q=>∃p ys,xs=[.ref p]/\(bW K H p ys\/wa K H p ys)/\Q (.int ys.length) H
theorem C8:pZ X (.builtin "len") (ZD X.K):=bg
theorem m9{K':aq}{e:de}{ta:TE}{f:Str}{pos:sY}(hK:X.K=K')(he:PE X e ta)(hb:attributeBase e f X.env (eval e X.env)=eval e X.env):PE X (.Attribute e f pos) (ab1 K' ta f):=by
 rw[<-hK];exact aQ he hb
end
theorem Q5:∀ {xs:List V} {us:List aj},xs.length=us.length->(∀(j:Nat) (x:V) (u:aj),xs[j]? =some x->us[j]? =some u->RelV x u)->cZ xs us
 |[],[],_,_=>.nil
 |[],_::_,h,_=>by simp at h
 |_::_,[],h,_=>by simp at h
 |x::xs,u::us,h,f=>.cons (f 0 x u rfl rfl) (Q5 (by simpa using h) fun j y w hy hw=>f (j+1) y w hy hw)
section
variable {X:Cx}
def Q6(ta:TA):TE:=fun σ H Q=>ta σ H fun vs H1=>∃j:Int,vs=[.int j]/\∀p,H1 p=none->Q (.ref p) (upd H1 p (.YM 0 j))
theorem TU{a:de}{ta:TA}{p pos:sY}(hg:Gl X "range")(hm:X.mg "range" =none)(ha:PA X [a] ta)(hs:starEach [a] X.env=[(false,eval a X.env)]:=by rfl):PE X (.Call (.Name "range" p) [a] [] pos) (Q6 ta):=by
 intro pins s σ H Q I h;refine Call_ (Ah I hg hm boot_range (hW (iW (ha pos pins s σ H _ I h) fun us s1 ⟨vs,H1,I1,r1,q1⟩=>?_) hs rfl));obtain⟨j,e,q⟩:=q1;subst e;cases r1 with
 |cons r rr=>
  cases rr;obtain⟨t,rfl⟩:=r;refine call_range_1 ?_;exact⟨.ref _,_,I1.laid (t':=s1.toks+1+1) (o:=.YM 0 j) (fun b o e=>Heap.get?_push_of_some _ e) (ao _) ⟨_,_,_,Heap.get?_push_size _ rfl⟩,rfl,q _ (I1.gR.fresh (ao _))⟩
def WB:List V->Hp->VK->Prop:=fun vs H Q=>E3 fun(p:Addr) (lo hi:Int)=>A5 (vs=[.ref p]) (H p=some (.YM lo hi)) (-(2^62)<=lo/\lo<2^62/\ -(2^62)<=hi/\hi<2^62) ((hi-lo).toNat<=1000000) (∀l,H l=none->Q (.ref l) (upd H l (.lst ((aG (hi-lo).toNat).map fun k:Nat=>.int (lo+(k:Int))))))
theorem Ih(hc:X.calm=true):pZ X (.type "list") WB:=by
 intro pins s σ H vs us Q I r h;obtain⟨p,lo,hi,rfl,hp,⟨h1,h2,h3,h4⟩,hz,q⟩:=h;obtain⟨t,u,v,e⟩:=I.gR p _ hp;rw[cZ.Kt r];have hn:fB lo hi 1=(((hi-lo).toNat:Nat):Int):=by rw[rangeSize_one];split<;>omega
 refine call_list_range (I.ok.hd hc) e (small_one h1 h2 h3 h4) hn (bN hz (by decide)) fun h' tk ajF c' hk hS' afU=>?_
 refine⟨.ref _,_,I.laid (t':=tk) (o:=.lst ((aG (hi-lo).toNat).map fun k:Nat=>.int (lo+(k:Int)))) hk (ao _) ⟨?_,ajF.toList,c',?_,by simpa using hS'⟩,rfl,q _ (I.gR.fresh (ao _))⟩
 ·rw[ae,ba];exact bN hz (by decide)
 ·refine Q5 (by rw[ae,ba,aI,afU.1]) fun j x w hx hw=>?_
  have hj:j<(hi-lo).toNat:=by
   have:=(aw.mp hx).1;rw[ae,ba]at this;exact this
  rw[cI,l4 hj]at hx;have ex:=(ax hx).symm;subst ex;obtain⟨t',rfl⟩:=afU.2 j w (by rw[<-gM];exact hw);exact⟨t',by simp⟩
def ab2(X:Cx)(i:Nat)(t:TA):TE:=fun σ H Q=>E5 fun(f:Addr) (fd:FuncData) (k:Nat) (ps:List Str) (sp:Sp)=>A6 (σ[i]? =some (some (.ref f))) (cF X.prog X.w X.K X.mg X.base iC k f fd ps sp) (nE k X.A) (eV X.K (.ref f)=true) (Binds X.K fd ps []) (t σ H fun vs H1=>sp (vs++[]) H1 Q E0)
theorem MY{i:Nat}{x:Str}{p pos:sY}{e:de}{es:List de}{t:TA}(hN:X.N[i]? =some x)(hv:Vis X.env.scope x)(ha:PA X (e::es) t)(hd:(x==("__debug__" :Str))=false:=by decide)(UA:(x==("__classdict__" :Str))=false:=by decide)
  (he:starEach (e::es) X.env=(false,eval e X.env)::starEach es X.env:=by rfl)(tQ:(backTo pos (starEach es X.env)).any (·.1)=false:=by rfl):PE X (.Call (.Name x p) (e::es) [] pos) (ab2 X i t):=by
 intro pins s σ H Q I h;obtain⟨f,fd,k,ps,sp,hσ,F,hr,hk,hb,q⟩:=h;obtain⟨m,hn,hl⟩:=I.loc;obtain⟨u,r,l⟩:=hl i x (.ref f) hN hσ hv;obtain rfl:u=eQ f:=r;have fin:wpAny (model X.prog X.w) X.A (callWith pos (.ref f) [] (backTo pos (starEach (e::es) X.env)) (backToKw pos (keywordEach [] X.env))) (EP X pins σ Q) X.xe s:=
  rG (h₀:=X.base) I.ok.mod.kin hk (iW (ha pos pins s σ H _ I q) fun us s1 ⟨vs,H1,I1,r,q⟩=>⟨I1.Nr,Gi F hr hb .nil bp I1 r q⟩) he tQ
 refine ig ?_;rcases l with ⟨LR,hm⟩|⟨LR,c,hc,NH⟩
 ·exact Aw (wpAny_loadName_local I.ok.kind LR hn hm fin) hd
 ·rcases LR with LR|LR
  ·exact Aw (wpAny_loadName_cell I.ok.kind LR hc NH fin) hd
  ·exact Aw (wpAny_loadName_free I.ok.kind LR hc NH fin UA) hd
end
section
variable {X:Cx}
def aeN(td ty tx:TE):TE:=fun σ H Q=>td σ H fun x H1=>∃a,A3 (x=.ref a) (IsD H1 a) (ty σ H1 fun y H2=>tx σ H2 fun z H3=>∃bx k,H3 a=some (.dK bx)/\y=kV k/\bx.length<sizeLine/\(∀v,p9 bx k=some v->Q v H3)/\(p9 bx k=none->Q z (upd H3 a (.dK (putK bx k z)))))
theorem acC{o e f:de}{apos mq:sY}{td ty tx:TE}(hu:X.A.units+1<cLine)(ho:PE X o td)(he:PE X e ty)(hf:PE X f tx)(m:M2 X o "setdefault" apos e f mq:=by exact⟨rfl,rfl,rfl,rfl⟩):PE X (.Call (.Attribute o "setdefault" apos) [e,f] [] mq) (aeN td ty tx):=by
 intro pins s σ H Q I h;refine wd m.base m.few m.line JT EV PySem.F.type_dict_setdefault (iW (ho pins s σ H _ I h) fun u s1 ⟨x,H1,I1,rx,a,ex,d,q1⟩=>?_);subst ex;obtain rfl:u=eQ a:=rx;obtain⟨t1,t2,_⟩:=Xi I1 d;refine⟨t1,t2,?_⟩;rw[m.trees];refine vZ rfl (yZ (mF (iW (he pins s1 σ H1 _ I1 q1) fun iv s2 ⟨y,H2,I2,ry,q2⟩=>
  mF (iW (hf pins s2 σ H2 _ I2 q2) fun fv s3 ⟨z,H3,I3,rz,bx,k,hk,ey,hl,qy,qn⟩=>Dh ?_))))
 subst ey;obtain⟨zz,hd,vs,rel,dd⟩:=abP I3.gR hk;have hlen:bx.length=vs.length:=rel.length;refine YC EV dd.typeIs PySem.F.entry_dict_setdefault (PySem.F.args_dict_setdefault_3 _ _ _) (kt_meets_setdefault (gQ X.prog X.w) a (RV ry) hd fv)
  ⟨vs,dd,by omega,fun v hv=>?_,fun hn h' dd' hs=>?_⟩
 ·have r:=rel.val k;rw[hv]at r;cases ek:p9 bx k with
  |none=>rw[ek]at r;exact r.elim
  |some w=>rw[ek]at r;exact⟨w,H3,I3.tok _,r,qy w ek⟩
 ·have r:=rel.val k;rw[hn]at r;have ek:p9 bx k=none:=by
   cases ek:p9 bx k with
   |none=>rfl
   |some w=>rw[ek]at r;exact r.elim
  have hl2:(putK bx k z).length<=sizeLine:=by have:=xn bx k z;omega
  have Se:∃q,h'.get? a=some q:=let ⟨q,_,_,hq,_⟩:=dd';⟨q,hq⟩;exact⟨z,_,Lk I3 (by rw[hk];exact sW) hs Se (X1 hl2 hd (rel.put k rz) dd'),rz,qn ek⟩
def Rt(K:aq):V->List V->Hp->VK->Prop:=fun x vs H Q=>E3 fun(p:Addr) (ns:List Int) (k:Int)=>A4 (x=.ref p) (vs=[.int k]) (bW K H p (ns.map V.int)) (Q (.int ((ns.count k:Nat):Int)) H)
theorem Uc:MtR X "list.count" (Rt X.K):=by
 intro pins s σ H x vs v us Q I rx rv h;obtain⟨p,ns,k,rfl,rfl,hs,q⟩:=h;cases rx;obtain⟨u,rfl,t,rfl⟩:=rv.one;obtain⟨dh,r,hl,_⟩:=I.list hs;exact PyProof.Rows.count_list_ints hl.isList r.ints ⟨.int ((ns.count k:Nat):Int),H,I.tok _,⟨_,rfl⟩,q⟩
end
section
variable {σ:St} {H:Hp} {Q:VK}
theorem adw{ar:TA}(k:ar σ H fun xs H1=>xs.length<=sizeLine/\∀p,H1 p=none->Q (.ref p) (upd H1 p (.tup xs))):aeC ar σ H Q:=k
theorem age{td ty tx:TE}(k:td σ H fun x H1=>∃a,A3 (x=.ref a) (IsD H1 a) (ty σ H1 fun y H2=>tx σ H2 fun z H3=>∃bx k,H3 a=some (.dK bx)/\y=kV k/\bx.length<sizeLine/\(∀v,p9 bx k=some v->Q v H3)/\(p9 bx k=none->Q z (upd H3 a (.dK (putK bx k z)))))):aeN td ty tx σ H Q:=k
end
section
variable {σ:St} {H:Hp} {Q:VK} {D:Ends} {K:aq} {ta tb tc te:TE} {t u:TS} {tt:TT} {QB:Bool->Hp->Prop}
theorem af2{i:Nat}{v:V}(h:σ[i]? =some (some v))(k:Q v H):ab0 i σ H Q:=⟨v,h,k⟩
theorem g_c{v:V}(k:Q v H):tC v σ H Q:=k
theorem ai8{r:R2}(k:ta σ H fun x H1=>tb σ H1 fun y H2=>r x y H2 Q):tOp r ta tb σ H Q:=k
theorem ajc{g:Int->Int->V}{i j:Int}(k:Q (g i j) H):YN g (.int i) (.int j) H Q:=⟨i,j,rfl,rfl,k⟩
theorem EH{C:Int->Int->Prop}{g:Int->Int->V}{i j:Int}(c:C i j)(k:Q (g i j) H):rI C g (.int i) (.int j) H Q:=⟨i,j,rfl,rfl,c,k⟩
theorem NY(i j:Int):decide (V.int i=V.int j)=decide (i=j):=by
 by_cases e:i=j
 ·subst e;simp
 ·have h:¬V.int i=V.int j:=fun q=>e (V.int.inj q)
  rw[decide_eq_false h,decide_eq_false e]
theorem agd{i j:Int}(k:Q (.bl (decide (i=j))) H):rEq (.int i) (.int j) H Q:=⟨rfl,by rw[NY];exact k⟩
theorem af8{i j:Int}(k:Q (.bl (!decide (i=j))) H):rNe (.int i) (.int j) H Q:=⟨rfl,by rw[NY];exact k⟩
variable {N C B:St->Hp->Prop} {R:VK}
theorem Jv(k:t ⟨u ⟨N,R,B,C⟩,R,B,C⟩ σ H):aeE t u ⟨N,R,B,C⟩ σ H:=k
theorem adt(k:N σ H):aa2 ⟨N,R,B,C⟩ σ H:=k
theorem adC(k:te σ H fun _ H1=>N σ H1):aa4 te ⟨N,R,B,C⟩ σ H:=k
theorem af5(k:te σ H R):aeF te ⟨N,R,B,C⟩ σ H:=k
theorem adq(k:R .lC H):aa0 ⟨N,R,B,C⟩ σ H:=k
theorem ajb(k:tt σ H fun b H1=>if b=true then t ⟨N,R,B,C⟩ σ H1 else u ⟨N,R,B,C⟩ σ H1):aeL tt t u ⟨N,R,B,C⟩ σ H:=k
theorem XG{i:Nat}(k:te σ H fun x H1=>N (σ.set i (some x)) H1):VY te (Jw i) ⟨N,R,B,C⟩ σ H:=k
theorem agf{g:TG}(k:te σ H fun x H1=>g x σ H1 N):VY te g ⟨N,R,B,C⟩ σ H:=k
theorem adu{i:Nat}{v:V}{S:St->Hp->Prop}(k:S (σ.set i (some v)) H):Jw i v σ H S:=k
theorem adn{f:Str}(k:tb σ H fun y H1=>ta σ H1 fun x H2=>E4 fun a C' dx fs=>A6 (x=.ref a) (H2 a=some (.ins C' dx fs)) (HD K C') (dR K C' f) (fs.length<1000) (N σ (upd H2 a (.ins C' dx (pL f y fs))))):ae0 K ta tb f ⟨N,R,B,C⟩ σ H:=k
theorem adA{ti:TE}{st:aaQ}{v:V}{S:St->Hp->Prop}(k:ta σ H fun o H1=>ti σ H1 fun i H2=>st o i v H2 fun H3=>S σ H3):agg ta ti st v σ H S:=k
theorem Qo{p:Addr}{xs:List V}{i:Int}{v:V}{j:Nat}{S:Hp->Prop}(hp:H p=some (.lst xs))(hj:YQ xs.length i=some j)(k:S (upd H p (.lst (xs.set j v)))):abd (.ref p) (.int i) v H S:=⟨p,xs,i,j,rfl,rfl,hp,hj,k⟩
theorem adk(k:te σ H fun x H'=>∃k,x=.bl k/\QB k H'):aaZ te σ H QB:=k
theorem ai4(k:te σ H fun x H'=>∃k,x=.bl k/\QB k H'):tB te σ H QB:=k
theorem Qp{b:Bool}{S:Bool->Prop}(k:S b):∃c,V.bl b=.bl c/\S c:=⟨b,rfl,k⟩
theorem adm{t1 t2:TT}(k:t1 σ H fun c H1=>if c=true then t2 σ H1 QB else QB false H1):aeO t1 t2 σ H QB:=k
theorem af3{t1 t2:TT}(k:t1 σ H fun c H1=>if c=true then QB true H1 else t2 σ H1 QB):tOr t1 t2 σ H QB:=k
theorem adl{t1:TT}(k:t1 σ H fun c H1=>QB (!c) H1):aeI t1 σ H QB:=k
theorem af7{R:List V->Hp->Prop}(k:R [] H):VR σ H R:=k
theorem adF{ar:TA}{R:List V->Hp->Prop}(k:ta σ H fun x H1=>ar σ H1 fun xs H2=>R (x::xs) H2):aa5 ta ar σ H R:=k
theorem adG{sp:Sp}{E:XK}{ar:TA}(k:ar σ H fun vs H1=>sp (vs++[]) H1 Q E):VX sp [] E ar σ H Q:=k
theorem ajd{r:List V->Hp->VK->Prop}{ar:TA}(k:ar σ H fun vs H1=>r vs H1 Q):tCB r ar σ H Q:=k
theorem adx{C:Addr}{m:Str}{sp:Sp}{E:XK}{ar:TA}(k:ta σ H fun x H1=>E3 fun a dx fs=>A4 (x=.ref a) (H1 a=some (.ins C dx fs)) (fs.lookup m=none) (ar σ H1 fun vs H2=>sp (x::(vs++[])) H2 Q E)):VS C m sp [] E ta ar σ H Q:=k
theorem agb{f:Str}(k:ta σ H fun x H1=>E5 fun a C dx fs v=>A6 (x=.ref a) (H1 a=some (.ins C dx fs)) (HD K C) (dR K C f) (fs.lookup f=some v) (Q v H1)):ab1 K ta f σ H Q:=k
theorem af9{ar:TA}(k:ar σ H fun xs H1=>xs.length<=sizeLine/\∀p,H1 p=none->Q (.ref p) (upd H1 p (.lst xs))):aeJ ar σ H Q:=k
theorem aax{r r':R2}(k:ta σ H fun x H1=>tb σ H1 fun y H2=>r x y H2 fun z H3=>∃k,z=.bl k/\(if k=true then tc σ H3 fun w' H4=>r' y w' H4 Q else Q (.bl false) H3)):VW r r' ta tb tc σ H Q:=k
theorem adH(k:ta σ H fun x H1=>∃c,x=.bl c/\if c=true then tb σ H1 Q else Q (.bl false) H1):aa6 ta tb σ H Q:=k
theorem af6(k:ta σ H fun x H1=>∃c,x=.bl c/\if c=true then Q (.bl true) H1 else tb σ H1 Q):aeG ta tb σ H Q:=k
theorem eO{p:Addr}{xs:List V}{i:Int}{v:V}(hs:bW K H p xs)(hv:JL xs i=some v)(k:Q v H):MQ K (.ref p) (.int i) H Q:=⟨p,xs,i,v,rfl,rfl,hs,hv,k⟩
theorem XM{p:Addr}{xs:List V}{i:Int}{v:V}(hs:wa K H p xs)(hv:JL xs i=some v)(k:Q v H):ae3 K (.ref p) (.int i) H Q:=⟨p,xs,i,v,rfl,rfl,hs,hv,k⟩
theorem bq{H:Hp}{p b:Addr}{o u:HO}(hp:H p=none)(hb:H b=some u):upd H p o b=some u:=by rw[cq (aR hb hp)];exact hb
theorem aX{H:Hp}{p b:Addr}{o u:HO}(hp:b≠p)(hb:H b=some u):upd H p o b=some u:=by rw[cq hp];exact hb
theorem aP{H:Hp}{p:Addr}(o:HO)(hp:H p=none):a7 H (upd H p o):=fun _ _ e=>bq hp e
end
section
variable {σ:St} {H:Hp} {Q:VK} {K:aq} {ta:TE} {N C B:St->Hp->Prop} {R:VK}
theorem ai3{r:V->Hp->VK->Prop}(k:ta σ H fun x H1=>r x H1 Q):tUn r ta σ H Q:=k
theorem ai7{g:Int->V}{i:Int}(k:Q (g i) H):rU g (.int i) H Q:=⟨i,rfl,k⟩
theorem abI{wi:TI}{g:TG}{tb:TS}{D:Ends}(k:wi σ H fun J H1=>∃W:Nat->Nat->St->Hp->Prop,(∃m,W 0 m σ H1)/\∀i m σ H,W i m σ H->(J.stop i H/\D.nx σ H)\/(J.go i H/\∃N:St->Hp->Prop,(∀σ' H',N σ' H'->∃m',m'<m/\W (i+1) m' σ' H')/\∀x H',J.LP i H x H'->g x σ H' fun σ2 H2=>tb {D with nx:=N,ct:=N,bk:=D.nx} σ2 H2)):aeM wi g tb D σ H:=k
theorem adp{ar:TA}{S:It->Hp->Prop}(k:ar σ H fun vs H1=>∃j:Int,A4 (vs=[.int j]) (-(2^62)<=j) (j<2^62) (S (Y2 0 j.toNat) H1)):abo ar σ H S:=k
theorem ado{ar:TA}{S:It->Hp->Prop}(k:ar σ H fun vs H1=>E4 fun(i j c:Int) (n:Nat)=>A3 (vs=[.int i,.int j,.int c]) (RgC i j c n) (S (Itc i c n) H1)):abn ar σ H S:=k
theorem aat{S:It->Hp->Prop}(k:ta σ H fun x H1=>∃a,A3 (x=.ref a) (∃xs,bW K H1 a xs) (S (Itl K a) H1)):abp K ta σ H S:=k
theorem aau{ar:TA}{S:It->Hp->Prop}(k:ar σ H fun vs H1=>E2 fun a xs=>A3 (vs=[.ref a]) (bW K H1 a xs) (S (Ite K a) H1)):abq K ar σ H S:=k
theorem zj{n:Nat}{ts:Y0}{a:Addr}{xs:List V}{S:St->Hp->Prop}(hs:wa K H a xs)(hn:xs.length=n)(k:ts xs σ H S):adI K n ts (.ref a) σ H S:=⟨a,xs,rfl,hs,hn,k⟩
theorem aav{t:TG}{u:Y0}{v:V}{r:List V}{S:St->Hp->Prop}(k:t v σ H fun σ' H'=>u r σ' H' S):abJ t u (v::r) σ H S:=⟨v,r,rfl,k⟩
theorem adB{S:St->Hp->Prop}(k:S σ H):agh [] σ H S:=⟨rfl,k⟩
theorem aje{T:String}{r:V->List V->Hp->VK->Prop}{ar:TA}(k:ta σ H fun x H1=>tyV K T x H1/\ar σ H1 fun xs H2=>r x xs H2 Q):tBM K T r ta ar σ H Q:=k
theorem xx{l:Addr}{xs:List V}{y:V}(hl:H l=some (.lst xs))(hz:xs.length<sizeLine)(k:Q .lC (upd H l (.lst (xs++[y])))):Rv (.ref l) [y] H Q:=⟨l,xs,y,rfl,rfl,hl,hz,k⟩
theorem Bp{l b:Addr}{xs zs:List V}(hl:H l=some (.lst xs))(hb:H b=some (.lst zs))(hz:xs.length+zs.length<=sizeLine)(k:Q .lC (upd H l (.lst (xs++zs)))):Ru (.ref l) [.ref b] H Q:=⟨l,b,xs,zs,rfl,rfl,hl,hb,hz,k⟩
theorem adD{td ty tv:TE}(k:tv σ H fun v H1=>td σ H1 fun x H2=>ty σ H2 fun y H3=>E2 fun a H4=>A3 (x=.ref a) (Ov H3 a y v H4) (N σ H4)):abb td ty tv ⟨N,R,B,C⟩ σ H:=k
theorem adE(k:∀p,H p=none->Q (.ref p) (upd H p (.dK []))):VU σ H Q:=k
theorem aga{tt:TT}{tb tc:TE}(k:tt σ H fun c H1=>if c=true then tb σ H1 Q else tc σ H1 Q):tIf tt tb tc σ H Q:=k
theorem ai5{r:V->Option Int->Option Int->Hp->VK->Prop}{tl th:TO}(k:ta σ H fun x H1=>tl σ H1 fun l H2=>th σ H2 fun u H3=>r x l u H3 Q):tSl r ta tl th σ H Q:=k
theorem af4{tl th tp:TO}(k:ta σ H fun x H1=>tl σ H1 fun l H2=>th σ H2 fun u H3=>tp σ H3 fun st H4=>E2 fun a xs=>A4 (x=.ref a) (bW K H4 a xs) (st≠some 0) (∀p,H4 p=none->Q (.ref p) (upd H4 p (.lst (Gw xs l u st))))):aeD K ta tl th tp σ H Q:=k
theorem XI{S:Option Int->Hp->Prop}(k:S none H):Q7 σ H S:=k
theorem ads{S:Option Int->Hp->Prop}(k:ta σ H fun x H1=>∃i,x=.int i/\S (some i) H1):aa1 ta σ H S:=k
theorem agc{i:Int}{S:Int->Prop}(k:S i):∃j,V.int i=.int j/\S j:=⟨i,rfl,k⟩
end
theorem Iy{t:TE}{σ:St}{H:Hp}{Q:VK}(C:V->Hp->Prop)(h2:∀v H',C v H'->Q v H')(h1:(∀v H',C v H'->Q v H')->t σ H Q):t σ H Q:=h1 h2
theorem zg{n:Nat}(h:n<16777216):n<sizeLine:=bV h (by decide)
theorem YO{n:Nat}(h:n<=16777216):n<=sizeLine:=bN h (by decide)
abbrev nV(n:Nat):V:=.int (n:Int)
theorem RW{n:Nat}{i:Int}(h0:0<=i)(h1:i<n):YQ n i=some i.toNat:=by
 unfold YQ;rw[if_pos h0,if_pos h1]
theorem ya{xs:List V}{i:Int}{v:V}(h0:0<=i)(h:xs[i.toNat]? =some v):JL xs i=some v:=by
 obtain⟨h1,_⟩:=aw.mp h;unfold JL;rw[RW h0 (by omega)];exact h
theorem Yp{l:List Nat}{i:Int}(h0:0<=i)(h1:i.toNat<l.length):JL (l.map nV) i=some (nV (l.getD i.toNat 0)):=by
 refine ya h0 ?_;rw[cI,aB h1,aW,aB h1];rfl
theorem ad0{l:List Int}{i:Int}(h0:0<=i)(h1:i.toNat<l.length):JL (l.map V.int) i=some (.int (l.getD i.toNat 0)):=by
 refine ya h0 ?_;rw[cI,aB h1,aW,aB h1];rfl
def ye(p:Addr)(H H':Hp):Prop:=∀b o,H b=some o->b≠p->H' b=some o
theorem ye.of(H:Hp)(p:Addr)(o:HO):ye p H (upd H p o):=fun b _ e hb=>aX hb e
theorem ye.trans{p:Addr}{H H1 H2:Hp}(a:ye p H H1)(b:ye p H1 H2):ye p H H2:=fun c o e hb=>b c o (a c o e hb) hb
section
variable {σ:St} {H:Hp} {Q:VK} {K:aq}
theorem ady{C:Addr}{sp:Sp}{E:XK}{ar:TA}(k:ar σ H fun vs H1=>∀x dx,H1 x=none->H1 dx=none->dx≠x->
 sp (.ref x::(vs++[])) (upd (upd H1 dx (.own x)) x (.ins C dx [])) (fun v H2=>v=.lC/\Q (.ref x) H2) E):VT C sp [] E ar σ H Q:=k
theorem Bq{a:Addr}{xs:List V}{g:TG}{tb:TS}{D:Ends}(Pv:Nat->St->Hp->Prop)(h0:Pv 0 σ H)(hl:∀i σ H,i<=xs.length->Pv i σ H->bW K H a xs)
  (hs:∀i x σ H T,xs[i]? =some x->Pv i σ H->H T=none->g (.ref T) σ (upd H T (.tup [.int (i:Nat),x])) fun σ2 H2=>tb {D with nx:=Pv (i+1),ct:=Pv (i+1),bk:=D.nx} σ2 H2)(hd:∀σ H,Pv xs.length σ H->D.nx σ H):
  ∃W:Nat->Nat->St->Hp->Prop,(∃m,W 0 m σ H)/\∀i m σ H,W i m σ H->
   ((Ite K a).stop i H/\D.nx σ H)\/((Ite K a).go i H/\∃N:St->Hp->Prop,(∀σ' H',N σ' H'->∃m',m'<m/\W (i+1) m' σ' H')/\∀x H',(Ite K a).LP i H x H'->g x σ H' fun σ2 H2=>tb {D with nx:=N,ct:=N,bk:=D.nx} σ2 H2):=by
 refine⟨fun i m σ H=>m=xs.length-i/\i<=xs.length/\Pv i σ H,⟨xs.length,by simp,bK _,h0⟩,?_⟩;rintro i m σ H ⟨rfl,hi,p⟩;have q:=hl i σ H hi p;by_cases lM:i<xs.length
 ·refine .inr ⟨⟨xs,xs[i],q,by simp[lM]⟩,Pv (i+1),fun σ' H' p'=>⟨xs.length-(i+1),by omega,rfl,lM,p'⟩,fun x H' y=>?_⟩;obtain⟨T,z,rfl,hT,rfl,y⟩:=y;exact hs i z σ _ T (y xs q) p hT
 ·have e:i=xs.length:=by omega
  subst e;exact .inl ⟨⟨xs,q,ao _⟩,hd σ H p⟩
theorem Z4{a:Addr}{xs:List V}{g:TG}{tt:TT}{te:TE}{vs:List Nat}{H1:Hp}{D:Addr}{Qd:Hp->Prop}(Pv:Nat->Hp->Prop)(h0:Pv 0 (upd H1 D (.lst [])))(hl:∀i H,i<=xs.length->Pv i H->bW K H a xs)
  (hs:∀i x H T,xs[i]? =some x->Pv i H->H T=none->g (.ref T) (wipe σ vs) (upd H T (.tup [.int (i:Nat),x])) fun σ2 H2=>wipe σ2 vs=wipe σ vs/\tt σ2 H2 fun b H3=>
   if b=true then te σ2 H3 fun y H4=>∃acc,H4 D=some (.lst acc)/\acc.length<sizeLine/\Pv (i+1) (upd H4 D (.lst (acc++[y])))else Pv (i+1) H3)(hd:∀H,Pv xs.length H->Qd H):
  ∃W:Nat->Nat->Hp->Prop,(∃m,W 0 m (upd H1 D (.lst [])))/\∀i m H,W i m H->
   ((Ite K a).stop i H/\Qd H)\/((Ite K a).go i H/\∃Nx:Hp->Prop,(∀H',Nx H'->∃m',m'<m/\W (i+1) m' H')/\∀x H',(Ite K a).LP i H x H'->g x (wipe σ vs) H' fun σ2 H2=>wipe σ2 vs=wipe σ vs/\tt σ2 H2 fun b H3=>
    if b=true then te σ2 H3 fun y H4=>∃acc,H4 D=some (.lst acc)/\acc.length<sizeLine/\Nx (upd H4 D (.lst (acc++[y])))else Nx H3):=by
 refine⟨fun i m H=>m=xs.length-i/\i<=xs.length/\Pv i H,⟨xs.length,by simp,bK _,h0⟩,?_⟩;rintro i m H ⟨rfl,hi,p⟩;have q:=hl i H hi p;by_cases lM:i<xs.length
 ·refine .inr ⟨⟨xs,xs[i],q,by simp[lM]⟩,Pv (i+1),fun H' p'=>⟨xs.length-(i+1),by omega,rfl,lM,p'⟩,fun x H' y=>?_⟩;obtain⟨T,z,rfl,hT,rfl,y⟩:=y;exact hs i z _ T (y xs q) p hT
 ·have e:i=xs.length:=by omega
  subst e;exact .inl ⟨⟨xs,q,ao _⟩,hd H p⟩
theorem Uo{lo c:Int}{n:Nat}{g:TG}{tt:TT}{te:TE}{vs:List Nat}{H1:Hp}{D:Addr}{Qd:Hp->Prop}(Pv:Nat->Hp->Prop)(h0:Pv 0 (upd H1 D (.lst [])))
  (hs:∀i H,i<n->Pv i H->g (.int (lo+(i:Nat)*c)) (wipe σ vs) H fun σ2 H2=>wipe σ2 vs=wipe σ vs/\tt σ2 H2 fun b H3=>
   if b=true then te σ2 H3 fun y H4=>∃acc,H4 D=some (.lst acc)/\acc.length<sizeLine/\Pv (i+1) (upd H4 D (.lst (acc++[y])))else Pv (i+1) H3)(hd:∀H,Pv n H->Qd H):
  ∃W:Nat->Nat->Hp->Prop,(∃m,W 0 m (upd H1 D (.lst [])))/\∀i m H,W i m H->
   ((Itc lo c n).stop i H/\Qd H)\/((Itc lo c n).go i H/\∃Nx:Hp->Prop,(∀H',Nx H'->∃m',m'<m/\W (i+1) m' H')/\∀x H',(Itc lo c n).LP i H x H'->g x (wipe σ vs) H' fun σ2 H2=>wipe σ2 vs=wipe σ vs/\tt σ2 H2 fun b H3=>
    if b=true then te σ2 H3 fun y H4=>∃acc,H4 D=some (.lst acc)/\acc.length<sizeLine/\Nx (upd H4 D (.lst (acc++[y])))else Nx H3):=by
 refine⟨fun i m H=>m=n-i/\i<=n/\Pv i H,⟨n,by simp,bK _,h0⟩,?_⟩;rintro i m H ⟨rfl,hi,p⟩;by_cases lM:i<n
 ·refine .inr ⟨lM,Pv (i+1),fun H' p'=>⟨n-(i+1),by omega,rfl,lM,p'⟩,fun x H' y=>?_⟩;obtain⟨e,y⟩:=y;subst e y;exact hs i _ lM p
 ·have e:i=n:=by omega
  subst e;exact .inl ⟨ao _,hd H p⟩
theorem aja{wi:TI}{g:TG}{tt:TT}{te:TE}{vs:List Nat}(k:wi σ H fun J H1=>∀D,H1 D=none->∃W:Nat->Nat->Hp->Prop,(∃m,W 0 m (upd H1 D (.lst [])))/\∀i m H,W i m H->(J.stop i H/\Q (.ref D) H)\/(J.go i H/\∃Nx:Hp->Prop,(∀H',Nx H'->∃m',m'<m/\W (i+1) m' H')/\∀x H',J.LP i H x H'->g x (wipe σ vs) H' fun σ2 H2=>wipe σ2 vs=wipe σ vs/\tt σ2 H2 fun b H3=>if b=true then te σ2 H3 fun y H4=>∃acc,H4 D=some (.lst acc)/\acc.length<sizeLine/\Nx (upd H4 D (.lst (acc++[y])))else Nx H3)):tLc wi g tt te vs σ H Q:=k
theorem af1{QB:Bool->Hp->Prop}(k:QB true H):aeB σ H QB:=k
end
section
variable {σ:St} {H:Hp} {Q:VK} {K:aq}
theorem UH{d:Addr}{o:Obj}{bx:List (Key×V)}{g:TG}{tb:TS}{D:Ends}(Pv:Nat->St->Hp->Prop)(h0:Pv 0 σ H)(hl:∀i σ H,i<=bx.length->Pv i σ H->H d=some (.nu o (.dK bx)))
  (hs:∀i k v σ H T,bx[i]? =some (k,v)->Pv i σ H->H T=none->g (.ref T) σ (upd H T (.tup [kV k,v])) fun σ2 H2=>tb {D with nx:=Pv (i+1),ct:=Pv (i+1),bk:=D.nx} σ2 H2)(hd:∀σ H,Pv bx.length σ H->D.nx σ H):
  ∃W:Nat->Nat->St->Hp->Prop,(∃m,W 0 m σ H)/\∀i m σ H,W i m σ H->
   ((Iti d o bx).stop i H/\D.nx σ H)\/((Iti d o bx).go i H/\∃N:St->Hp->Prop,(∀σ' H',N σ' H'->∃m',m'<m/\W (i+1) m' σ' H')/\∀x H',(Iti d o bx).LP i H x H'->g x σ H' fun σ2 H2=>tb {D with nx:=N,ct:=N,bk:=D.nx} σ2 H2):=by
 refine⟨fun i m σ H=>m=bx.length-i/\i<=bx.length/\Pv i σ H,⟨bx.length,by simp,bK _,h0⟩,?_⟩;rintro i m σ H ⟨rfl,hi,p⟩;have q:=hl i σ H hi p;by_cases lM:i<bx.length
 ·refine .inr ⟨⟨q,lM⟩,Pv (i+1),fun σ' H' p'=>⟨bx.length-(i+1),by omega,rfl,lM,p'⟩,fun x H' y=>?_⟩;obtain⟨T,k,v,hk,rfl,hT,rfl⟩:=y;exact hs i k v σ _ T hk p hT
 ·have e:i=bx.length:=by omega
  subst e;exact .inl ⟨⟨q,ao _⟩,hd σ H p⟩
theorem XJ{t:TS}{N C B:St->Hp->Prop}{R:VK}{d:Addr}{u:HO}(hd:H d=some u)(hm:Mut (some u))(k:∀od,t ⟨fun σ' H'=>H' d=some (.nu od u)/\N σ' (upd H' d u),fun v H'=>H' d=some (.nu od u)/\R v (upd H' d u),fun σ' H'=>H' d=some (.nu od u)/\B σ' (upd H' d u),fun σ' H'=>H' d=some (.nu od u)/\C σ' (upd H' d u)⟩ σ (upd H d (.nu od u))):aa3 t ⟨N,R,B,C⟩ σ H:=⟨d,u,hd,hm,k⟩
theorem XN{td:TE}{S:It->Hp->Prop}(k:td σ H fun x H1=>E3 fun d o bx=>A3 (x=.ref d) (H1 d=some (.nu o (.dK bx))) (S (Iti d o bx) H1)):Xk td σ H S:=k
theorem aaw{td ty tx:TE}(k:td σ H fun x H1=>∃a,A3 (x=.ref a) (IsD H1 a) (ty σ H1 fun y H2=>tx σ H2 fun z H3=>∃o,Vb H3 a y o/\Q (o.getD z) H3)):VV td ty tx σ H Q:=k
end
theorem XO{σ:L2.St}{H:Hp}{K:aq}{ta tv:TE}{rd:V->V->Hp->VK->Prop}{f:Str}{N C B:St->Hp->Prop}{R:VK}(k:ta σ H fun x H1=>E5 fun a C' dx fs v=>A6 (x=.ref a) (H1 a=some (.ins C' dx fs)) (HD K C') (dR K C' f) (fs.lookup f=some v) (tv σ H1 fun y H2=>rd v y H2 fun z H3=>∃dx' YY,H3 a=some (.ins C' dx' YY)/\YY.length<1000/\N σ (upd H3 a (.ins C' dx' (pL f z YY))))):Rq K ta tv rd f ⟨N,R,B,C⟩ σ H:=k
def mC(prog:bw)(w:bQ)(a:Addr)(ks:List Int):HO:=.ext fun h=>Pd.LD prog w h a ks
theorem Sh{prog:bw}{w:bQ}{H:Hp}{h:Heap}{a:Addr}{ks:List Int}(g:Pd.LD prog w h a ks):i9 prog w H h a (mC prog w a ks):=
 ⟨g,let ⟨_,_,_,x⟩:=g;⟨_,x.at_⟩,fun _ _ ⟨es,ep,t,x⟩ k=>⟨es,ep,t,x.keep k⟩⟩
section
variable {X:Cx}
def JN(X:Cx)(H:Hp)(a:Addr)(ks:List Int):Prop:=H a=some (mC X.prog X.w a ks)
theorem JN.got{pins:List (Addr×Obj)}{σ:St}{H:Hp}{s:au}{a:Addr}{ks:List Int}(h:JN X H a ks)(I:Inv X pins σ H s):Pd.LD X.prog X.w s.heap a ks:=(show i9 _ _ _ _ _ (mC X.prog X.w a ks)from I.gR a _ h).1
def ae4(X:Cx):List V->Hp->VK->Prop:=fun vs H Q=>E2 fun(p:Addr) (ns:List Int)=>A4 (vs=[.ref p]) (bW X.K H p (ns.map V.int)) (ns.length<=1000) (∀l,H l=none->Q (.ref l) (upd H l (mC X.prog X.w l (firstMet (fun i=>ns.getD i 0) ns.length))))
theorem oJ(hc:X.calm=true):pZ X (.type "set") (ae4 X):=by
 intro pins s σ H vs us Q I r h;obtain⟨p,ns,rfl,hs,hz,q⟩:=h;obtain⟨dh,rv,hl,_⟩:=I.list hs;rw[cZ.Kt r];have hi:=rv.ints;have hlen:dh.toArray.size=ns.length:=by rw[aZ];exact hi.length
 refine Pd.Xb (I.ok.hd hc) hl.isList hi (by rw[hlen];omega) fun h' tk g k=>?_
 rw[hlen]at g;exact⟨.ref _,_,I.laid (t':=tk) k (ao _) (Sh g),rfl,q _ (I.gR.fresh (ao _))⟩
def ae2(X:Cx):R2:=fun x y H Q=>E4 fun(a b:Addr) (ks ls:List Int)=>A5 (x=.ref a) (y=.ref b) (JN X H a ks) (JN X H b ls) (∀r,H r=none->Q (.ref r) (upd H r (mC X.prog X.w r (ks.filter fun k=>!ls.contains k))))
theorem Fg:EO X (binaryOp .Sub) (ae2 X):=by
 intro pins s σ H x y v u Q I rx ry h;obtain⟨a,b,ks,ls,rfl,rfl,ha,hb,q⟩:=h;cases rx;cases ry;obtain⟨e1,p1,t1,g1⟩:=ha.got I;obtain⟨e2,p2,t2,g2⟩:=hb.got I;exact Pd.UZ g1 g2 fun h' k g=>⟨.ref _,_,I.laid (t':=s.toks) k (ao _) (Sh g),rfl,q _ (I.gR.fresh (ao _))⟩
def Wz(X:Cx):List V->Hp->VK->Prop:=fun vs H Q=>E2 fun(a:Addr) (ks:List Int)=>A3 (vs=[V.ref a]) (JN X H a ks) (∀(ns:List Int) (p:Addr),ns.Perm ks->ns.Pairwise (· <= ·)->H p=none->Q (.ref p) (upd H p (.lst (ns.map V.int))))
theorem Hm(hc:X.calm=true):pZ X (.builtin "sorted") (Wz X):=by
 intro pins s σ H vs us Q I r h;obtain⟨a,ks,rfl,ha,q⟩:=h;obtain⟨e1,p1,t1,g1⟩:=ha.got I;rw[cZ.Kt r];refine Pd.Pl (I.ok.hd hc) g1 fun h' tk p ep out ns a1 a2 a3 k hp ho=>?_
 have hlen:(ns.map V.int).length<=sizeLine:=by
  rw[ae,a2.length_eq];have:=g1.le;have:=Pd.wA;omega
 exact⟨.ref _,upd H p (.lst (ns.map V.int)),I.laid (t':=tk) k hp ⟨hlen,out.toList,ep,uP a1,ho⟩,rfl,q ns _ a2 a3 (I.gR.fresh hp)⟩
theorem Ii:pZ X (.builtin "len") (fun xs H Q=>∃a ks,xs=[V.ref a]/\JN X H a ks/\Q (.int ks.length) H):=by
 intro pins s σ H xs us Q I r h;obtain⟨a,ks,rfl,ha,q⟩:=h;obtain⟨es,ep,t,g⟩:=ha.got I;rw[cZ.Kt r];have:=g.sz;have:=g.le;exact PySem.call_len_set g.at_ ⟨rfl,rfl,rfl⟩ rfl g.tl.fits (by omega) ⟨.int _,H,I.tok _,⟨_,rfl⟩,by rw[g.sz];exact q⟩
end
section
variable {X:Cx}
theorem acD{K':aq}{T:String}{name:Str}{id:String}{r:V->List V->Hp->VK->Prop}{o e:de}{es:List de}{to:TE}{t:TA}{apos mq:sY}(hK:X.K=K')(pa:PlainAttrs T)(slot:Slot T name id)(hty:typeOf (.builtin id)=pure (.type "method_descriptor"))(hm:MtR X id r)(ho:PE X o to)(ha:PA X (e::es) t)
  (G9:attributeBase o name X.env (eval o X.env)=eval o X.env:=by rfl)
  (adb:((backTo mq (starEach (e::es) X.env)).all (fun x=>!x.1)&&(backToKw mq (keywordEach [] X.env)).all (fun x=>x.1.isSome)&&decide ((e::es).length+([]:List Ej).length+(if ([]:List Ej).isEmpty then 0 else 1)<30))=true:=by rfl)
  (G8:(apos.endLine==mq.line)=true:=by rfl)(hs:starEach (e::es) X.env=(false,eval e X.env)::starEach es X.env:=by rfl)(G7:(backTo mq (starEach es X.env)).any (·.1)=false:=by rfl):
  PE X (.Call (.Attribute o name apos) (e::es) [] mq) (tBM K' T r to t):=by
 subst hK;exact lr pa slot hty hm ho ha G9 adb G8 hs G7
end
def U9(K:aq)(a:Addr):It:=⟨fun i H=>∃(xs:List V) (x:V),bW K H a xs/\xs[i]? =some x,fun i H v H'=>∃T x,v=.ref T/\H T=none/\H'=upd H T (.tup [.int ((i+1:Nat):Int),x])/\∀xs,bW K H a xs->xs[i]? =some x,fun i H=>∃xs:List V,bW K H a xs/\xs.length<=i⟩
theorem O9{P:bw}{w:bQ}{K:aq}{elts:List de}{kk:Nat}{zK:sY}(a e it:Addr):
  Turn P w K (.Tuple elts kk zK) (U9 K a) [e,it] e (fun i h=>(∃old,yg h e it ((i+1:Nat):Int) old)/\h.IsListIter it a i/\e≠it) where
 mem:=by simp
 obj:=fun i h st b hb=>by
  obtain⟨⟨old,he⟩,⟨o,ho,hc,hd⟩,_⟩:=st;rcases(show b=e\/b=it by simpa using hb)with rfl|rfl
  ·exact⟨_,he,fun v q=>nomatch q⟩
  ·exact⟨o,ho,fun v q=>by rw[hd]at q;cases q⟩
 keep:=fun i h h' st k=>let ⟨⟨old,he⟩,hi,j1⟩:=st;⟨⟨old,k e (by simp) _ he⟩,hi.at fun o q=>k it (by simp) o q,j1⟩
 item:=by
  intro X hP hw hK hc i pins s σ H E I hf st hg;subst hP hw hK;obtain⟨⟨old,he⟩,hit,j1⟩:=st;obtain⟨xs,x,hq,hx⟩:=hg;obtain⟨dh,rv,p,hz⟩:=I.list hq;obtain⟨u,hu,ru⟩:=rv.get hx;have YU:e<s.heap.objs.size:=Heap.lt_size he;have Ux:it<s.heap.objs.size:=by obtain⟨_,q,_⟩:=hit;exact Heap.lt_size q
  refine Pd.aaA he hit p.isList (x:=u) (by simpa using hu) j1 fun h' ho ada hT hk=>?_
  refine⟨_,rfl,QR (s:={s with heap:=h',toks:=s.toks+1}) ho fun Vp Se sb=>?_⟩;have hT2:Vp.get? s.heap.objs.size=some {cls:=.type "tuple",data:=.seq #[.int ((i+1:Nat):Int) s.toks,u]}:=(sb.2 _ (lO YU)).trans hT;have new:i9 X.prog X.w (upd H s.heap.objs.size (.tup [.int ((i+1:Nat):Int),x])) Vp s.heap.objs.size (.tup [.int ((i+1:Nat):Int),x]):=
   ⟨by show 2<=sizeLine;decide,[.int ((i+1:Nat):Int) s.toks,u],.cons ⟨_,rfl⟩ (.cons ru .nil),⟨_,hT2,rfl,_,rfl⟩⟩
  have I1:Inv X pins σ (upd H s.heap.objs.size (.tup [.int ((i+1:Nat):Int),x])) {s with heap:=Vp,toks:=s.toks+1}:=
   I.Ci (ch:=[e,it]) (fun b ob hb q=>(sb.2 b (fun z=>hb (by simp[z]))).trans (hk b ob (fun z=>hb (by simp[z])) (fun z=>hb (by simp[z])) q)) hf (ao _) new
  refine⟨.ref s.heap.objs.size,_,I1,rfl,⟨_,x,rfl,I.gR.fresh (ao _),rfl,fun ys hy=>by rw[I.GZ hy hq];exact hx⟩,⟨⟨u,?_⟩,ada.at fun o q=>(sb.2 it (bT j1)).trans q,j1⟩,fun b hb=>?_⟩
  ·have e1:((i+1+1:Nat):Int)=((i+1:Nat):Int)+1:=by omega
   rw[e1];exact Se
  ·have hb':b<s.heap.objs.size:=by
    rcases(show b=e\/b=it by simpa using hb)with rfl|rfl
    ·exact YU
    ·exact Ux
   rw[cq (bE hb')];exact(hf b hb).1
 done:=by
  intro X hP hw hK hc i pins s σ H E I hf st hg;subst hP hw hK;obtain⟨⟨old,he⟩,hit,j1⟩:=st;obtain⟨xs,hq,hx⟩:=hg;obtain⟨dh,rv,p,hz⟩:=I.list hq;obtain⟨f0,f1,f2,f3,f4,f5⟩:=hf it (by simp);have hl:=rv.length;exact Pd.adM (I.ok.hd hc) he hit p.isList (by simp;omega) fun h' eb=>⟨rfl,I.turned (t':=s.toks) (fun b o hb q=>eb b o hb q) f0 f1 f3 f4 f5⟩
 self:=fun A i s Q E st h=>let ⟨⟨_,he⟩,_⟩:=st;wb he h
def Xl(K:aq)(ta:TA):TI:=fun σ H R=>ta σ H fun vs H1=>E2 fun a xs=>A3 (vs=[.ref a]) (bW K H1 a xs) (R (U9 K a) H1)
theorem Lp{M:Model}{A:cR}{E:aj->au->Prop}{s:au}{env:OG}{pos:sY}{T:String}{e:de}{rest:List de}{kws:List Ej}{Q:aj->au->Prop}
  (h:wpAny M A (spliced (backTo pos (starEach (e::rest) env))) (fun vs s₁=>wpAny M A (evalAll ((backToKw pos (keywordEach kws env)).map (·.2)))
   (fun bx s₂=>wpAny M A (call (.type T) vs (((backToKw pos (keywordEach kws env)).filterMap (·.1)).zip bx)) Q E s₂) E s₁) E s)
  (he:backTo pos (starEach (e::rest) env)=(false,eval e env)::backTo pos (starEach rest env))(G7:(backTo pos (starEach (e::rest) env)).any (·.1)=false)(pO:(backToKw pos (keywordEach kws env)).all (·.1.isSome)=true)(hkw:(backToKw pos (keywordEach kws env)).any (·.1.isNone)=false):
  wpAny M A (callWith pos (.type T) [] (backTo pos (starEach (e::rest) env)) (backToKw pos (keywordEach kws env))) Q E s:=by
 have h2:wpAny M A (evalArgs (.type T) true (backTo pos (starEach (e::rest) env)) (backToKw pos (keywordEach kws env))) (fun a s₁=>wpAny M A (call (.type T) ([]++a.pos) a.kw) Q E s₁) E s:=by
  rw[he]at h⊢;exact evalArgs_kwB pO h
 unfold callWith;refine ag (fq (jV h2 (fun a s₁ h₁=>ag (Fx ?_)) fun _ _ x=>x));simp only[G7,hkw,Bool.or_false];refine ag (aD ?_);exact ag (jV h₁ (fun r s₂ hr=>ag (fq (wpAny_point (aD hr)))) fun _ _ x=>x)
theorem MV{X:Cx}{e:de}{ta:TA}{p pos zK kp cp:sY}{elts:List de}{kk j:Nat}(hg:Gl X "enumerate")(hm:X.mg "enumerate" =none)(ha:PA X [e] ta)(hs:starEach [e] X.env=[(false,eval e X.env)]:=by rfl):
  PI X (.Tuple elts kk zK) (.Call (.Name "enumerate" p) [e] [⟨some "start",.Constant (.int 1) j cp,kp⟩] pos) (Xl X.K ta):=by
 intro pins s σ H R I h;refine ig (Ah I hg hm boot_enumerate (Lp (iW (ha pos pins s σ H _ I h) fun us s1 ⟨vs,H1,I1,r1,q1⟩=>?_) (by rw[hs];rfl) (by rw[hs];rfl) rfl rfl));obtain⟨a,xs,ex,hq,q⟩:=q1;subst ex;cases r1 with
 |cons r rr=>
  cases rr;cases r;refine kws_cons (iW (aS (X:=X) (i:=1) (j:=j) (pos:=cp) pins s1 σ H1 (fun v H2=>v=.int 1/\H2=H1) I1 ⟨rfl,rfl⟩) fun v s2 ⟨y,H2,I2,ry,ey,eh⟩=>kws_nil ?_);subst ey eh;obtain⟨t,rfl⟩:=ry;obtain⟨dh,rv,p',hz⟩:=I2.list hq;refine Pd.aaC p'.isList fun h' he hit hk=>wb he ?_
  have I3:Inv X pins σ H2 {s2 with heap:=h'}:=I2.kept (t':=s2.toks) hk;refine⟨s2.heap.objs.size+1,[s2.heap.objs.size+1,s2.heap.objs.size],_,_,H2,rfl,I3,O9 a (s2.heap.objs.size+1) s2.heap.objs.size,⟨⟨.none,he⟩,hit,Nat.succ_ne_self _⟩,fun b hb=>?_,q⟩;have hle:s2.heap.objs.size<=b:=by
   rcases(show b=s2.heap.objs.size+1\/b=s2.heap.objs.size by simpa using hb)with rfl|rfl
   ·exact Nat.le_add_right _ _
   ·exact ao _
  exact I2.Qq hle (I2.gR.fresh hle)
theorem Jz{K:aq}{σ:St}{H:Hp}{a:Addr}{xs:List V}{g:TG}{tb:TS}{D:Ends}(Pv:Nat->St->Hp->Prop)(h0:Pv 0 σ H)(hl:∀i σ H,i<=xs.length->Pv i σ H->bW K H a xs)
  (hs:∀i x σ H T,xs[i]? =some x->Pv i σ H->H T=none->g (.ref T) σ (upd H T (.tup [.int ((i+1:Nat):Int),x])) fun σ2 H2=>tb {D with nx:=Pv (i+1),ct:=Pv (i+1),bk:=D.nx} σ2 H2)(hd:∀σ H,Pv xs.length σ H->D.nx σ H):
  ∃W:Nat->Nat->St->Hp->Prop,(∃m,W 0 m σ H)/\∀i m σ H,W i m σ H->
   ((U9 K a).stop i H/\D.nx σ H)\/((U9 K a).go i H/\∃N:St->Hp->Prop,(∀σ' H',N σ' H'->∃m',m'<m/\W (i+1) m' σ' H')/\∀x H',(U9 K a).LP i H x H'->g x σ H' fun σ2 H2=>tb {D with nx:=N,ct:=N,bk:=D.nx} σ2 H2):=by
 refine⟨fun i m σ H=>m=xs.length-i/\i<=xs.length/\Pv i σ H,⟨xs.length,by simp,bK _,h0⟩,?_⟩;rintro i m σ H ⟨rfl,hi,p⟩;have q:=hl i σ H hi p;by_cases lM:i<xs.length
 ·refine .inr ⟨⟨xs,xs[i],q,by simp[lM]⟩,Pv (i+1),fun σ' H' p'=>⟨xs.length-(i+1),by omega,rfl,lM,p'⟩,fun x H' y=>?_⟩;obtain⟨T,z,rfl,hT,rfl,y⟩:=y;exact hs i z σ _ T (y xs q) p hT
 ·have e:i=xs.length:=by omega
  subst e;exact .inl ⟨⟨xs,q,ao _⟩,hd σ H p⟩
theorem NJ{K:aq}{σ:St}{H:Hp}{ta:TA}{S:It->Hp->Prop}(k:ta σ H fun vs H1=>E2 fun a xs=>A3 (vs=[.ref a]) (bW K H1 a xs) (S (U9 K a) H1)):Xl K ta σ H S:=k
end L2
local macro_rules | `(tactic|walk_at"sc")=> `(tactic|exact⟨rfl,rfl,rfl,by decide+kernel,rfl,by decide+kernel,by decide+kernel⟩)
namespace Pd
open PySem PySem.Spec PyProof.Rows L2
def top(i:Nat):Stmt:=PySem.Challenge.pw_packdraft_s01_answers.main.body.getD i (.Pass ⟨0,0,0,0⟩)
abbrev Ay(i j:Nat):Stmt:=inClass (top i) j
abbrev Ds:=Ay 6 0
abbrev zb:=Ay 7 0
abbrev wQ:=Ay 7 1
abbrev vz:=top 8
abbrev aa9:=top 9
abbrev wK:=top 10
abbrev Dv:=Ay 12 0
abbrev Du:=Ay 13 0
abbrev Dt:=Ay 13 1
abbrev wO:=Ay 13 2
abbrev wN:=Ay 13 3
abbrev pT:=Ay 13 4
abbrev rX:=Ay 13 5
abbrev rY:=Ay 13 6
abbrev rZ:=Ay 13 7
abbrev MI:=top 14
abbrev AY:=Ay 15 0
abbrev qd:=Ay 16 0
abbrev vB:=Ay 16 1
abbrev oA:=Ay 16 2
abbrev r8:=Ay 16 3
abbrev r9:=Ay 16 4
abbrev qP:=Ay 16 5
abbrev Dy:=Ay 16 6
abbrev sf:=Ay 16 7
abbrev qc:=Ay 16 8
abbrev iO:=Ay 16 9
abbrev Gg:=top 17
abbrev MH:=top 18
abbrev Dz:=Ay 23 0
abbrev y9:=Ay 24 0
abbrev r6:=Ay 24 1
abbrev o8:=Ay 24 2
abbrev nT:=Ay 24 3
abbrev qO:=Ay 24 4
abbrev MD:=top 38
abbrev uY:=top 39
abbrev Gf:=top 40
abbrev Dp:=top 41
abbrev y8:=top 42
abbrev vA:=top 43
abbrev rW:=top 44
abbrev wH:=top 45
abbrev y4:=top 46
abbrev wL:=top 47
abbrev wJ:=top 48
abbrev Wl:=top 49
abbrev wG:=top 50
abbrev uc:=top 51
abbrev wM:=top 52
abbrev vy:=top 53
abbrev AX:=top 55
abbrev oz:=top 61
abbrev wF:=top 62
abbrev ub:=top 63
abbrev aba:=top 64
abbrev Dq:=top 65
abbrev qM:=top 66
abbrev qN:=top 67
abbrev y6:=top 68
abbrev wI:=top 69
abbrev tH:=top 70
abbrev Dx:=Ay 73 0
abbrev Ro:=top 74
abbrev uX:=top 75
abbrev IH:=top 76
abbrev Rp:=top 77
abbrev Wi:=top 78
abbrev Wj:=top 79
abbrev aa8:=top 80
abbrev Wh:=top 81
abbrev Kq:=top 82
abbrev Kr:=top 83
abbrev ME:=top 84
abbrev Wg:=top 85
abbrev Wk:=top 86
abbrev Wn:=top 87
abbrev yu:=top 88
abbrev Cr:=top 89
abbrev MG:=top 90
abbrev MF:=top 91
abbrev Wm:=top 92
abbrev Rm:=top 93
abbrev Rn:=top 94
abbrev Dr:=top 96
abbrev ud:=top 97
theorem Kk:a8 ["self","class_number","colours","copies"] ["self","class_number","colours","copies"] (aL Ds):=by walk_at"sc"
theorem Ge:a8 ["self","seed"] ["self","seed"] (aL zb):=by walk_at"sc"
theorem Eu:a8 ["self","bound"] ["self","bound"] (aL wQ):=by walk_at"sc"
theorem kU:a8 ["sorts","class_number","sheet","number","each"] ["sorts","class_number"] (aL vz):=by walk_at"sc"
theorem Kf:a8 ["sheet","chance","i","j","moved"] ["sheet","chance"] (aL aa9):=by walk_at"sc"
theorem jX:a8 ["sorts","seed","chance","sheets","class_number","sheet"] ["sorts","seed"] (aL wK):=by walk_at"sc"
theorem Km:a8 ["self","number","origin","cards"] ["self","number","origin","cards"] (aL Dv):=by walk_at"sc"
theorem Kl:a8 ["self"] ["self"] (aL Du):=by walk_at"sc"
theorem AW:a8 ["self","pack"] ["self"] (aL Dt):=by walk_at"sc"
theorem Et:a8 ["self","pack"] ["self","pack"] (aL wO):=by walk_at"sc"
theorem vx:a8 ["self","pack"] ["self"] (aL wN):=by walk_at"sc"
theorem wD:a8 ["self"] ["self"] (aL pT):=by walk_at"sc"
theorem zP:a8 ["self"] ["self"] (aL rX):=by walk_at"sc"
theorem zQ:a8 ["self"] ["self"] (aL rY):=by walk_at"sc"
theorem zR:a8 ["self"] ["self"] (aL rZ):=by walk_at"sc"
theorem Cp:a8 ["looks","cards","shown"] ["looks"] (aL MI):=by walk_at"sc"
theorem HW:a8 ["self","how_many_seats","recipe","at_a_time","rounds","seed","sorts"] ["self","how_many_seats","recipe","at_a_time","rounds","seed","sorts"] (aL AY):=by walk_at"sc"
theorem lK:a8 ["self","setup","number","sheet"] ["self","setup"] (aL qd):=by walk_at"sc"
theorem Cq:a8 ["self"] ["self"] (aL vB):=by walk_at"sc"
theorem mZ:a8 ["self","cards","card"] ["self","cards"] (aL oA):=by walk_at"sc"
theorem me:a8 ["self","class_number","sheet","place"] ["self","class_number"] (aL r8):=by walk_at"sc"
theorem iN:a8 ["self","cards","class_number","how_many","turn"] ["self"] (aL r9):=by walk_at"sc"
theorem jo:a8 ["self","first_number","origin","seat"] ["self"] (aL qP):=by walk_at"sc"
theorem Ko:a8 ["self","i"] ["self","i"] (aL Dy):=by walk_at"sc"
theorem qL:a8 ["self","i","n"] ["self","i"] (aL sf):=by walk_at"sc"
theorem iA:a8 ["self","i","places","seat","pack","taken","place","card"] ["self","i","places"] (aL qc):=by walk_at"sc"
theorem iw:a8 ["self","seat"] ["self"] (aL iO):=by walk_at"sc"
theorem MC:a8 [] [] (aL Gg):=by walk_at"sc"
theorem yt:a8 ["setup","picks","draft","i","places"] ["setup","picks"] (aL MH):=by walk_at"sc"
theorem Kp:a8 ["self","number","numbers","row"] ["self","number","numbers","row"] (aL Dz):=by walk_at"sc"
theorem Gd:a8 ["self","calls"] ["self","calls"] (aL y9):=by walk_at"sc"
theorem zS:a8 ["self"] ["self"] (aL r6):=by walk_at"sc"
theorem vQ:a8 ["self"] ["self"] (aL o8):=by walk_at"sc"
theorem mY:a8 ["self","how_many","numbers"] ["self","how_many"] (aL nT):=by walk_at"sc"
theorem ij:a8 ["self","number","numbers","row"] ["self"] (aL qO):=by walk_at"sc"
theorem TJ:a8 ["number","least","most"] ["number","least","most"] (aL MD):=by walk_at"sc"
theorem tG:a8 ["numbers","least","most","number"] ["numbers","least","most"] (aL uY):=by walk_at"sc"
theorem MB:a8 ["draft","call"] ["draft","call"] (aL Gf):=by walk_at"sc"
theorem Kh:a8 ["recipe"] ["recipe"] (aL Dp):=by walk_at"sc"
theorem Gc:a8 ["row"] ["row"] (aL y8):=by walk_at"sc"
theorem fQ:a8 ["draft","call","numbers","recipe","right","classes","class_number","how_many"] ["draft","call"] (aL vA):=by walk_at"sc"
theorem zO:a8 ["number","most","how_many"] ["number","most","how_many"] (aL rW):=by walk_at"sc"
theorem Es:a8 ["draft","call"] ["draft","call"] (aL wH):=by walk_at"sc"
theorem wC:a8 ["draft","call","refusal"] ["draft","call"] (aL y4):=by walk_at"sc"
theorem vt:a8 ["draft","call","refusal"] ["draft","call"] (aL wL):=by walk_at"sc"
theorem vq:a8 ["draft","call","refusal"] ["draft","call"] (aL wJ):=by walk_at"sc"
theorem Zv:a8 ["draft","i","places"] ["draft","i","places"] (aL Wl):=by walk_at"sc"
theorem Er:a8 ["draft","call"] ["draft","call"] (aL wG):=by walk_at"sc"
theorem AU:a8 ["draft","call"] ["draft","call"] (aL uc):=by walk_at"sc"
theorem vw:a8 ["draft","call","m"] ["draft","call"] (aL wM):=by walk_at"sc"
theorem Co:a8 ["draft","call"] ["draft","call"] (aL vy):=by walk_at"sc"
theorem y3:a8 ["draft","call","refusal"] ["draft","call"] (aL AX):=by walk_at"sc"
theorem mW:a8 ["number","sign"] ["number"] (aL oz):=by walk_at"sc"
theorem pK:a8 ["i","places","line","place"] ["i","places"] (aL wF):=by walk_at"sc"
theorem ke:a8 ["picks","record","i","places"] ["picks"] (aL ub):=by walk_at"sc"
theorem Pu:a8 ["numbers","mark","parts","number"] ["numbers","mark"] (aL aba):=by walk_at"sc"
theorem Ki:a8 ["digits"] ["digits"] (aL Dq):=by walk_at"sc"
theorem lS:a8 ["line","parts","part"] ["line"] (aL qM):=by walk_at"sc"
theorem jn:a8 ["record","parts","number","line"] ["record"] (aL qN):=by walk_at"sc"
theorem mX:a8 ["digits","number","digit"] ["digits"] (aL y6):=by walk_at"sc"
theorem uU:a8 ["line","numbers","part"] ["line"] (aL wI):=by walk_at"sc"
theorem qJ:a8 ["record","line"] ["record"] (aL tH):=by walk_at"sc"
theorem Kn:a8 ["self"] ["self"] (aL Dx):=by walk_at"sc"
theorem ua:a8 ["sorts","counts","number","told","how_many"] ["sorts"] (aL Ro):=by walk_at"sc"
theorem tF:a8 ["row","k"] ["row"] (aL uX):=by walk_at"sc"
theorem Pt:a8 ["line","call"] ["line","call"] (aL IH):=by walk_at"sc"
theorem AV:a8 ["line","call","numbers","recipe","setup"] ["line","call"] (aL Rp):=by walk_at"sc"
theorem Zt:a8 ["line","call"] ["line","call"] (aL Wi):=by walk_at"sc"
theorem Kg:a8 ["line","call","i","places"] ["line","call"] (aL Wj):=by walk_at"sc"
theorem Wf:a8 ["line","call","pack"] ["line","call"] (aL aa8):=by walk_at"sc"
theorem Zs:a8 ["line","call"] ["line","call"] (aL Wh):=by walk_at"sc"
theorem FZ:a8 ["line","call","seat"] ["line","call"] (aL Kq):=by walk_at"sc"
theorem F7:a8 ["line","call","pack"] ["line","call"] (aL Kr):=by walk_at"sc"
theorem Cn:a8 ["line","call","draft","over"] ["line","call"] (aL ME):=by walk_at"sc"
theorem Zr:a8 ["line","call"] ["line","call"] (aL Wg):=by walk_at"sc"
theorem Zu:a8 ["line","call"] ["line","call"] (aL Wk):=by walk_at"sc"
theorem Zw:a8 ["line","call"] ["line","call"] (aL Wn):=by walk_at"sc"
theorem md:a8 ["line","call","held","counts","colour","number","each"] ["line","call"] (aL yu):=by walk_at"sc"
theorem uV:a8 ["line","call","k","seat"] ["line","call"] (aL Cr):=by walk_at"sc"
theorem TK:a8 ["line","call"] ["line","call"] (aL MG):=by walk_at"sc"
theorem t9:a8 ["line","call","wrong_line","draft","number","told"] ["line","call"] (aL MF):=by walk_at"sc"
theorem Kj:a8 ["line","call","picks","left"] ["line","call"] (aL Wm):=by walk_at"sc"
theorem F0:a8 ["line","call","told","pack"] ["line","call"] (aL Rm):=by walk_at"sc"
theorem We:a8 ["line","call"] ["line","call"] (aL Rn):=by walk_at"sc"
theorem uW:a8 ["line","call","refusal","tell"] ["line","call"] (aL Dr):=by walk_at"sc"
theorem qK:a8 ["calls","reader","line","given_back","answer"] ["calls"] (aL ud):=by walk_at"sc"
abbrev UI(x y:Str)(st:Stmt)(a b c:aj)(d:Option Addr)(e f:aj):FuncData:=lp x y (yG st) (vd st) (aL st) .none a b c d e f
abbrev BdS(x y:Str)(st:Stmt)(ps:List Str):Prop:=∀a b c d e f,∀us:List aj,us.length=ps.length->bindArgs (UI x y st a b c d e f) ⟨us,[]⟩=pure (ps.zip us)
structure nQ(K:aq)(mg:Str->Option aj)(x y:Str)(st:Stmt)(ps:List Str)(f:Addr)(d:FuncData):Prop where
 F:Fun K x y st f d
 b:Binds K d ps []
 g:mg x=some (.ref f)
structure HL(K:aq)(x y:Str)(st:Stmt)(ps:List Str)(C f:Addr)(d:FuncData):Prop where
 F:Fun K x y st f d
 b:Binds K d ps []
 m:aaU K C x f
structure Y3(K:aq)(y:Str)(st:Stmt)(ps:List Str)(C f:Addr)(d:FuncData):Prop where
 F:Fun K "__init__" y st f d
 b:Binds K d ps []
 m:Mk K C f
theorem bd0{x y:Str}{st:Stmt}(h:∀a b c d e f,bindArgs (UI x y st a b c d e f) ⟨[],[]⟩=pure []):BdS x y st []:=fun a b c d e f us hl=>match us,hl with|[],_=>h a b c d e f
theorem bd1{x y p:Str}{st:Stmt}(h:∀a b c d e f u,bindArgs (UI x y st a b c d e f) ⟨[u],[]⟩=pure [(p,u)]):BdS x y st [p]:=fun a b c d e f us hl=>match us,hl with|[u],_=>h a b c d e f u
theorem bd2{x y p q:Str}{st:Stmt}(h:∀a b c d e f u v,bindArgs (UI x y st a b c d e f) ⟨[u,v],[]⟩=pure [(p,u),(q,v)]):BdS x y st [p,q]:=fun a b c d e f us hl=>match us,hl with|[u,v],_=>h a b c d e f u v
theorem bd3{x y p q r:Str}{st:Stmt}(h:∀a b c d e f u v w,bindArgs (UI x y st a b c d e f) ⟨[u,v,w],[]⟩=pure [(p,u),(q,v),(r,w)]):BdS x y st [p,q,r]:=fun a b c d e f us hl=>match us,hl with|[u,v,w],_=>h a b c d e f u v w
theorem bd4{x y p q r s:Str}{st:Stmt}(h:∀a b c d e f u v w z,bindArgs (UI x y st a b c d e f) ⟨[u,v,w,z],[]⟩=pure [(p,u),(q,v),(r,w),(s,z)]):BdS x y st [p,q,r,s]:=fun a b c d e f us hl=>match us,hl with|[u,v,w,z],_=>h a b c d e f u v w z
theorem bd7{x y p q r s k l m:Str}{st:Stmt}(h:∀a b c d e f u v w z i j n,bindArgs (UI x y st a b c d e f) ⟨[u,v,w,z,i,j,n],[]⟩=pure [(p,u),(q,v),(r,w),(s,z),(k,i),(l,j),(m,n)]):BdS x y st [p,q,r,s,k,l,m]:=fun a b c d e f us hl=>match us,hl with|[u,v,w,z,i,j,n],_=>h a b c d e f u v w z i j n
section
variable {K:aq} {hh:Heap} {mg:Str->Option aj} {x y:Str} {st:Stmt} {ps:List Str} {C f:Addr} {od an:Option Addr} {sl:Array (Option aj)} {oc kV dc pm cd ct:aj}
theorem fG(X:K.In hh)(G:hh.Ns mainGlobals mg)(a:BS K mainGlobals x=some (some (.ref f)))(l:K.lookup f=some ⟨oc,od,.func (UI x y st kV dc pm an cd ct),sl⟩)(c:nH K cd y=true)(k:eV K (.ref f)=true)(hb:BdS x y st ps:=by walk_at"bd"):nQ K mg x y st ps f (UI x y st kV dc pm an cd ct):=
 ⟨C1 l c k,(C1 l c k).binds hb,Il X G a⟩
theorem fM(a:eW K (.ref C) x=some (some (.ref f)))(i:vn K (.ref f)=true)(l:K.lookup f=some ⟨oc,od,.func (UI x y st kV dc pm an cd ct),sl⟩)(c:nH K cd y=true)(k:eV K (.ref f)=true)(hb:BdS x y st ps:=by walk_at"bd"):HL K x y st ps C f (UI x y st kV dc pm an cd ct):=
 ⟨C1 l c k,(C1 l c k).binds hb,⟨a,i,k⟩⟩
theorem fI(a:eW K (.ref C) "__init__" =some (some (.ref f)))(i:vn K (.ref f)=true)(l:K.lookup f=some ⟨oc,od,.func (UI "__init__" y st kV dc pm an cd ct),sl⟩)(c:nH K cd y=true)(k:eV K (.ref f)=true)(mk:ET K C=true)(kc:eV K (.ref C)=true)(hb:BdS "__init__" y st ps:=by walk_at"bd"):Y3 K y st ps C f (UI "__init__" y st kV dc pm an cd ct):=
 ⟨C1 l c k,(C1 l c k).binds hb,⟨mk,a,i,kc⟩⟩
theorem fC(a:oK K C Str.empty=true)(b:sX K C=true)(c:BR K C=true)(d:eW K (.ref C) "__setattr__" =some (some (.builtin "object.__setattr__"))):HD K C:=⟨a,b,c,d⟩
theorem fK(X:K.In hh)(G:hh.Ns mainGlobals mg)(a:BS K mainGlobals x=some (some (.ref C))):mg x=some (.ref C):=Il X G a
theorem fV{i:Int}{t:Vv}(X:K.In hh)(G:hh.Ns mainGlobals mg)(a:BS K mainGlobals x=some (some (.int i t))):∃t,mg x=some (.int i t):=⟨_,Il X G a⟩
theorem fN(X:K.In hh)(G:hh.Ns mainGlobals mg)(a:BS K mainGlobals x=some none):mg x=none:=PySem.W.mg_none_of X G a
theorem fA(a:eW K (.ref C) x=some none):dR K C x:=a
theorem fT{xs:Array aj}{n:Nat}{vs:List V}(l:K.lookup f=some ⟨.type "tuple",od,.seq xs n,sl⟩)(h:xs.size<=1000)(p:cZ vs xs.toList):∀H:Hp,wa K H f vs:=fun H=>.inr ⟨_,_,_,l,rfl,rfl,bN h (by decide),p⟩
end
set_option genInjectivity false in
set_option genSizeOfSpec false in
structure Ad where
 {rD rE jU jf jT dC nG kO jy D0 zw xG vG abK xA D6 D4 D2 xE xD pX sE sF sG NT Bz BB vH ur sI sJ rh D7 sL BA kL Hg NS D8 zv sH pB nX rg NR By kK DY zu lW sD cY oY nA ny XT nv k9 nB lV Bv uq xy uo abL DZ xB rb zt DW zr xF Sl Bx JA Fo Lb Ld Sk Hf Fk Fm Bt La Le Lg yE yD Bw Bu Lf Fl Fn xC yF rA uD Hz JM SK:Addr}
 {Ec zE xV vJ abR xN Ef Ee Ed xT xS pY sN sO sP N4 BG BI vL uy sR sS rn Eg sT BH kN Hl N3 Eh zD sQ pC nY rk NZ BF Hk Ea zC vK sM xK zy xO xM X9 xJ uw xQ vI BD uv xI uu abS Eb xP rj zB D9 zA xU Sy BE JD Sz X6 X7 abQ Qw Su Sw N0 X5 X8 Yb JF JE N2 N1 Ya Sv Sx xR ux:FuncData}
structure Txt(K:aq)(mg:Str->Option aj)(ad:Ad):Prop where
 ZY:mg "Sort" =some (.ref ad.rD)
 yH:HD K ad.rD
 pV:dR K ad.rD "class_number"
 xf:dR K ad.rD "colours"
 zf:dR K ad.rD "copies"
 Ue:mg "Chance" =some (.ref ad.rE)
 uz:HD K ad.rE
 va:dR K ad.rE "x"
 Z0:mg "Pack" =some (.ref ad.jU)
 fk:HD K ad.jU
 oX:dR K ad.jU "number"
 tL:dR K ad.jU "origin"
 eA:dR K ad.jU "cards"
 oW:dR K ad.jU "passed"
 ZZ:mg "Seat" =some (.ref ad.jf)
 cT:HD K ad.jf
 fh:dR K ad.jf "row"
 my:dR K ad.jf "pool"
 mj:dR K ad.jf "first_looks"
 i8:dR K ad.jf "last_looks"
 Nd:mg "Setup" =some (.ref ad.jT)
 iP:HD K ad.jT
 ni:dR K ad.jT "how_many_seats"
 xh:dR K ad.jT "recipe"
 sq:dR K ad.jT "at_a_time"
 xg:dR K ad.jT "rounds"
 tK:dR K ad.jT "sorts"
 nh:dR K ad.jT "sheets"
 Bk:mg "Draft" =some (.ref ad.dC)
 a6:HD K ad.dC
 f9:dR K ad.dC "setup"
 c7:dR K ad.dC "seats"
 kI:dR K ad.dC "sheet_places"
 eU:dR K ad.dC "round_number"
 je:dR K ad.dC "picks"
 gH:dR K ad.dC "card_sorts"
 RP:mg "Call" =some (.ref ad.nG)
 dW:HD K ad.nG
 tM:dR K ad.nG "number"
 cX:dR K ad.nG "numbers"
 gI:dR K ad.nG "row"
 Ud:mg "Reader" =some (.ref ad.kO)
 gK:HD K ad.kO
 qU:dR K ad.kO "calls"
 kH:dR K ad.kO "place"
 Z1:mg "Line" =some (.ref ad.jy)
 e8:HD K ad.jy
 bP:dR K ad.jy "draft"
 wj:Y3 K "Sort.__init__" Ds ["self","class_number","colours","copies"] ad.rD ad.D0 ad.Ec
 tw:Y3 K "Chance.__init__" zb ["self","seed"] ad.rE ad.zw ad.zE
 qG:HL K "below" "Chance.below" wQ ["self","bound"] ad.rE ad.xG ad.xV
 lR:nQ K mg "printed_sheet" "printed_sheet" vz ["sorts","class_number"] ad.vG ad.vJ
 Q0:nQ K mg "mix" "mix" aa9 ["sheet","chance"] ad.abK ad.abR
 mL:nQ K mg "mixed_sheets" "mixed_sheets" wK ["sorts","seed"] ad.xA ad.xN
 wm:Y3 K "Pack.__init__" Dv ["self","number","origin","cards"] ad.jU ad.D6 ad.Ef
 wk:Y3 K "Seat.__init__" Du ["self"] ad.jf ad.D4 ad.Ee
 o5:HL K "look" "Seat.look" Dt ["self"] ad.jf ad.D2 ad.Ed
 ku:HL K "receive" "Seat.receive" wO ["self","pack"] ad.jf ad.xE ad.xT
 qF:HL K "release" "Seat.release" wN ["self"] ad.jf ad.xD ad.xS
 lz:HL K "cards_before" "Seat.cards_before" pT ["self"] ad.jf ad.pX ad.pY
 i5:HL K "cards_seen" "Seat.cards_seen" rX ["self"] ad.jf ad.sE ad.sN
 mO:HL K "cards_gone" "Seat.cards_gone" rY ["self"] ad.jf ad.sF ad.sO
 mP:HL K "cards_away" "Seat.cards_away" rZ ["self"] ad.jf ad.sG ad.sP
 lJ:nQ K mg "joined" "joined" MI ["looks"] ad.NT ad.N4
 mN:Y3 K "Setup.__init__" AY ["self","how_many_seats","recipe","at_a_time","rounds","seed","sorts"] ad.jT ad.Bz ad.BG
 iu:Y3 K "Draft.__init__" qd ["self","setup"] ad.dC ad.BB ad.BI
 ia:HL K "is_over" "Draft.is_over" vB ["self"] ad.dC ad.vH ad.vL
 bO:HL K "sorts_of" "Draft.sorts_of" oA ["self","cards"] ad.dC ad.ur ad.uy
 mR:HL K "next_sort" "Draft.next_sort" r8 ["self","class_number"] ad.dC ad.sI ad.sR
 mS:HL K "new_cards" "Draft.new_cards" r9 ["self"] ad.dC ad.sJ ad.sS
 iK:HL K "open_round" "Draft.open_round" qP ["self"] ad.dC ad.rh ad.rn
 o6:HL K "due" "Draft.due" Dy ["self","i"] ad.dC ad.D7 ad.Eg
 mT:HL K "neighbour" "Draft.neighbour" sf ["self","i"] ad.dC ad.sL ad.sT
 ir:HL K "take" "Draft.take" qc ["self","i","places"] ad.dC ad.BA ad.BH
 iL:HL K "end_round_if_empty" "Draft.end_round_if_empty" iO ["self"] ad.dC ad.kL ad.kN
 uN:nQ K mg "no_draft" "no_draft" Gg [] ad.Hg ad.Hl
 AH:nQ K mg "played" "played" MH ["setup","picks"] ad.NS ad.N3
 o7:Y3 K "Call.__init__" Dz ["self","number","numbers","row"] ad.nG ad.D8 ad.Eh
 tq:Y3 K "Reader.__init__" y9 ["self","calls"] ad.kO ad.zv ad.zD
 mQ:HL K "has_more" "Reader.has_more" r6 ["self"] ad.kO ad.sH ad.sQ
 gX:HL K "read_number" "Reader.read_number" o8 ["self"] ad.kO ad.pB ad.pC
 eJ:HL K "read_numbers" "Reader.read_numbers" nT ["self","how_many"] ad.kO ad.nX ad.nY
 l8:HL K "read_call" "Reader.read_call" qO ["self"] ad.kO ad.rg ad.rk
 cE:nQ K mg "within" "within" MD ["number","least","most"] ad.NR ad.NZ
 cC:nQ K mg "all_within" "all_within" uY ["numbers","least","most"] ad.By ad.BF
 l5:nQ K mg "none_due" "none_due" Gf ["draft","call"] ad.kK ad.Hk
 rR:nQ K mg "is_recipe" "is_recipe" Dp ["recipe"] ad.DY ad.Ea
 oS:nQ K mg "is_sort_row" "is_sort_row" y8 ["row"] ad.zu ad.zC
 pI:nQ K mg "begin_refusal" "begin_refusal" vA ["draft","call"] ad.lW ad.vK
 gd:nQ K mg "missing_refusal" "missing_refusal" rW ["number","most","how_many"] ad.sD ad.sM
 bX:nQ K mg "seat_refusal" "seat_refusal" wH ["draft","call"] ad.cY ad.xK
 j2:nQ K mg "see_refusal" "see_refusal" y4 ["draft","call"] ad.oY ad.zy
 jt:nQ K mg "late_refusal" "late_refusal" wL ["draft","call"] ad.nA ad.xO
 qD:nQ K mg "pick_refusal" "pick_refusal" wJ ["draft","call"] ad.ny ad.xM
 J2:nQ K mg "fits" "fits" Wl ["draft","i","places"] ad.XT ad.X9
 qC:nQ K mg "sort_refusal" "sort_refusal" wG ["draft","call"] ad.nv ad.xJ
 ot:nQ K mg "replay_refusal" "replay_refusal" uc ["draft","call"] ad.k9 ad.uw
 qE:nQ K mg "back_refusal" "back_refusal" wM ["draft","call"] ad.nB ad.xQ
 pH:nQ K mg "sheet_refusal" "sheet_refusal" vy ["draft","call"] ad.lV ad.vI
 jK:nQ K mg "refusal_of" "refusal_of" AX ["draft","call"] ad.Bv ad.BD
 gG:nQ K mg "written_number" "written_number" oz ["number"] ad.uq ad.uv
 mK:nQ K mg "written_pick" "written_pick" wF ["i","places"] ad.xy ad.xI
 kT:nQ K mg "written_record" "written_record" ub ["picks"] ad.uo ad.uu
 tX:nQ K mg "cut" "cut" aba ["numbers","mark"] ad.abL ad.abS
 rS:nQ K mg "is_number" "is_number" Dq ["digits"] ad.DZ ad.Eb
 mM:nQ K mg "is_pick_line" "is_pick_line" qM ["line"] ad.xB ad.xP
 jL:nQ K mg "first_wrong_line" "first_wrong_line" qN ["record"] ad.rb ad.rj
 oQ:nQ K mg "read_number" "read_number" y6 ["digits"] ad.zt ad.zB
 rQ:nQ K mg "read_pick" "read_pick" wI ["line"] ad.DW ad.D9
 oP:nQ K mg "read_record" "read_record" tH ["record"] ad.zr ad.zA
 wo:Y3 K "Line.__init__" Dx ["self"] ad.jy ad.xF ad.xU
 oR:nQ K mg "pairs" "pairs" Ro ["sorts"] ad.Sl ad.Sy
 p8:nQ K mg "read_sorts" "read_sorts" uX ["row"] ad.Bx ad.BE
 d9:nQ K mg "seat_of" "seat_of" IH ["line","call"] ad.JA ad.JD
 J3:nQ K mg "begin" "begin" Rp ["line","call"] ad.Fo ad.Sz
 OY:nQ K mg "pick" "pick" Wi ["line","call"] ad.Lb ad.X6
 OZ:nQ K mg "late" "late" Wj ["line","call"] ad.Ld ad.X7
 VE:nQ K mg "see" "see" aa8 ["line","call"] ad.Sk ad.abQ
 Cd:nQ K mg "pool" "pool" Wh ["line","call"] ad.Hf ad.Qw
 JY:nQ K mg "waits" "waits" Kq ["line","call"] ad.Fk ad.Su
 J0:nQ K mg "sizes" "sizes" Kr ["line","call"] ad.Fm ad.Sw
 FF:nQ K mg "stands" "stands" ME ["line","call"] ad.Bt ad.N0
 OX:nQ K mg "seen" "seen" Wg ["line","call"] ad.La ad.X5
 O0:nQ K mg "gone" "gone" Wk ["line","call"] ad.Le ad.X8
 O2:nQ K mg "away" "away" Wn ["line","call"] ad.Lg ad.Yb
 Cf:nQ K mg "colours" "colours" yu ["line","call"] ad.yE ad.JF
 Ce:nQ K mg "holders" "holders" Cr ["line","call"] ad.yD ad.JE
 FH:nQ K mg "record" "record" MG ["line","call"] ad.Bw ad.N2
 FG:nQ K mg "replay" "replay" MF ["line","call"] ad.Bu ad.N1
 O1:nQ K mg "back" "back" Wm ["line","call"] ad.Lf ad.Ya
 JZ:nQ K mg "truth" "truth" Rm ["line","call"] ad.Fl ad.Sv
 J1:nQ K mg "sheet" "sheet" Rn ["line","call"] ad.Fn ad.Sx
 rT:nQ K mg "answer_to" "answer_to" Dr ["line","call"] ad.xC ad.xR
 Iw:nQ K mg "answers" "answers" ud ["calls"] ad.yF ad.ux
 UX:∃t,mg "CLASSES" =some (.int (4) t)
 Lq:∃t,mg "MULTIPLIER" =some (.int (6364136223846793005) t)
 Oe:∃t,mg "INCREMENT" =some (.int (1442695040888963407) t)
 UT:∃t,mg "MODULUS" =some (.int (18446744073709551616) t)
 QA:∃t,mg "LOW_BITS" =some (.int (8589934592) t)
 Ar:mg "HOW_MANY_NUMBERS" =some (.ref ad.rA)
 zU:∀H:Hp,wa K H ad.rA [.int (8),.int (1),.int (1),.int (1),.int (1),.int (0),.int (1),.int (0),.int (1),.int (1),.int (1),.int (1),.int (1),.int (0),.int (0),.int (1),.int (1),.int (1)]
 Dc:mg "CALLS_WITH_ROW" =some (.ref ad.uD)
 Cu:∀H:Hp,wa K H ad.uD [.int (0),.int (1),.int (14)]
 adX:∃t,mg "PICK" =some (.int (1) t)
 jS:∃t,mg "NONE_DUE" =some (.int (0) t)
 jw:∃t,mg "OUT_OF_RANGE" =some (.int (-1) t)
 Ei:∃t,mg "NOT_THERE" =some (.int (-2) t)
 Ls:∃t,mg "DRAFT_OVER" =some (.int (-3) t)
 US:∃t,mg "NO_PACK" =some (.int (-4) t)
 Ht:∃t,mg "WRONG_PLACES" =some (.int (-5) t)
 EM:∃t,mg "TOO_FEW_PICKS" =some (.int (-5) t)
 x9:∃t,mg "CLASS_WITHOUT_SORT" =some (.int (-6) t)
 BM:∃t,mg "MOST_SEATS" =some (.int (8) t)
 BL:∃t,mg "MOST_SORTS" =some (.int (64) t)
 Lr:∃t,mg "MOST_BYTES" =some (.int (20000) t)
 Hu:∃t,mg "LARGEST_SEED" =some (.int (1000000000000000000) t)
 Qz:mg "REFUSALS" =some (.ref ad.Hz)
 PD:∀H:Hp,wa K H ad.Hz [.ref ad.lW,.ref ad.ny,.ref ad.nA,.ref ad.oY,.ref ad.cY,.ref ad.kK,.ref ad.cY,.ref ad.kK,.ref ad.cY,.ref ad.cY,.ref ad.cY,.ref ad.cY,.ref ad.nv,.ref ad.kK,.ref ad.k9,.ref ad.nB,.ref ad.cY,.ref ad.lV]
 Aq:∃t,mg "LINE_END" =some (.int (10) t)
 Lu:∃t,mg "BLANK" =some (.int (32) t)
 C9:∃t,mg "DIGIT_0" =some (.int (48) t)
 UU:∃t,mg "DIGIT_9" =some (.int (57) t)
 UW:mg "COLOURS" =some (.ref ad.JM)
 IT:∀H:Hp,wa K H ad.JM [.int (1),.int (2),.int (4),.int (8)]
 aaG:mg "CALLS" =some (.ref ad.SK)
 ZE:∀H:Hp,wa K H ad.SK [.ref ad.Fo,.ref ad.Lb,.ref ad.Ld,.ref ad.Sk,.ref ad.Hf,.ref ad.Fk,.ref ad.Fm,.ref ad.Bt,.ref ad.La,.ref ad.Le,.ref ad.Lg,.ref ad.yE,.ref ad.yD,.ref ad.Bw,.ref ad.Bu,.ref ad.Lf,.ref ad.Fl,.ref ad.Fn]
 jx:mg "len" =none
 De:mg "range" =none
 mr:mg "enumerate" =none
 ajA:mg "min" =none
 ajB:mg "max" =none
 agu:mg "sum" =none
 ajC:mg "any" =none
 agw:mg "all" =none
 Lw:mg "sorted" =none
 agv:mg "list" =none
 QE:mg "set" =none
 ajy:mg "str" =none
 ajz:mg "ord" =none
local macro_rules | `(tactic|walk_at"s1")=> `(tactic|first
 |((with_reducible refine' af2 ?gh ?_);(case gh=>exact rfl))
 |with_reducible refine Jv ?_|with_reducible refine XG ?_|with_reducible refine g_c ?_|with_reducible refine ai8 ?_|with_reducible refine ajc ?_|with_reducible refine agd ?_|with_reducible refine af8 ?_
 |with_reducible refine af5 ?_|with_reducible refine adq ?_|with_reducible refine adC ?_|with_reducible refine ajb ?_|with_reducible refine agf ?_|with_reducible refine adu ?_|with_reducible refine adt ?_
 |with_reducible refine adk ?_|with_reducible refine ai4 ?_|with_reducible refine Qp ?_|with_reducible refine adm ?_|with_reducible refine af3 ?_|with_reducible refine adl ?_
 |with_reducible refine af7 ?_|with_reducible refine adF ?_|with_reducible refine adG ?_|with_reducible refine ajd ?_|with_reducible refine adx ?_|with_reducible refine agb ?_|with_reducible refine af9 ?_|with_reducible refine aax ?_
 |with_reducible refine adH ?_|with_reducible refine af6 ?_|with_reducible refine ai9 ?_|with_reducible refine adn ?_|with_reducible refine adA ?_|with_reducible refine ak0 ?_
 |with_reducible refine XO ?_|with_reducible refine XN ?_|with_reducible refine aaw ?_|with_reducible refine ady ?_|with_reducible refine aja ?_|with_reducible refine af1 ?_|with_reducible refine ai3 ?_|with_reducible refine ai7 ?_|with_reducible refine abI ?_|with_reducible refine adp ?_|with_reducible refine ai6 ?_|with_reducible refine ado ?_|with_reducible refine aat ?_|with_reducible refine aau ?_
 |with_reducible refine aav ?_|with_reducible refine adB ?_|with_reducible refine aje ?_|with_reducible refine adD ?_|with_reducible refine adE ?_|with_reducible refine aga ?_|with_reducible refine ai5 ?_|with_reducible refine af4 ?_|with_reducible refine XI ?_|with_reducible refine ads ?_|with_reducible refine agc ?_|with_reducible refine age ?_|with_reducible refine adw ?_
 |((with_reducible refine' ak1 ?gh ?_);(case gh=>exact rfl)))
local macro_rules | `(tactic|walk_at"")=> `(tactic|repeat walk_at"s1")
open Vbdcaq (Table Pack Setup)
section
variable {P:bw} {w:bQ} {K:aq} {mg:Str->Option aj} {base:Heap} {ad:Ad}
def V0:Sp:=fun vs H Q _=>E3 fun(n l m:Int)=>vs=[.int n,.int l,.int m]/\Q (.bl (decide (l<=n)&&decide (n<=m))) H
theorem iY(T:Txt K mg ad):cF P w K mg base iC 1 ad.NR ad.NZ ["number","least","most"] V0:=by
 refine T.cE.F.ok TJ (by rintro _ _ _ _ ⟨n,l,m,rfl,_⟩;rfl) (fun _ A _ s H vs Q E hr h=>?_)
 ·obtain⟨n,l,m,rfl,k⟩:=h;refine⟨_,(aJ (bj (WK abh abh (pv 1) (pv 0) (pv 2)))),?_⟩;walk_at"";refine ik (fun c=>?_) fun c=>?_
  ·rw[c,fO]at k;walk_at"";exact k
  ·rw[dX]at c;rw[c]at k;exact k
def chF(x:Int):List (Str×V):=[("x",.int x)]
def rC(ad:Ad)(H:Hp)(a:Addr)(x:Int):Prop:=∃dx,H a=some (.ins ad.rE dx (chF x))
def Ka(ad:Ad):Sp:=fun vs H Q _=>E3 fun(p dx:Addr) (x:Int)=>A3 (vs=[.ref p,.int x]) (H p=some (.ins ad.rE dx [])) (∀H',rC ad H' p x->ye p H H'->Q .lC H')
theorem GJ(T:Txt K mg ad):cF P w K mg base iC 1 ad.zw ad.zE ["self","seed"] (Ka ad):=by
 refine T.tw.F.ok Ge (by rintro _ _ _ _ ⟨p,dx,x,rfl,_⟩;rfl) (fun _ A _ s H vs Q E hr h=>?_)
 ·obtain⟨p,dx,x,rfl,hp,k⟩:=h;refine⟨_,(aJ (eR (pv 0) (pv 1) rfl)),?_⟩;walk_at"";refine⟨p,_,dx,_,rfl,hp,T.uz,T.va,by decide,?_⟩;exact k _ ⟨dx,ak⟩ fun b o e hb=>aX hb e
def Zn(ad:Ad):Sp:=fun vs H Q _=>E3 fun(p:Addr) (x:Nat) (n:Int)=>A5 (vs=[.ref p,.int n]) (0<n) (rC ad H p (x:Int)) (x<18446744073709551616) (∀H',rC ad H' p ((jb x:Nat):Int)->ye p H H'->Q (.int ((BX (jb x) n.toNat:Nat):Int)) H')
theorem W3(x:Nat):((x:Int)*6364136223846793005+1442695040888963407) %18446744073709551616=((jb x:Nat):Int):=by
 unfold jb;omega
theorem U1(x n:Nat):(x:Int)/8589934592 %(n:Int)=((BX x n:Nat):Int):=by
 unfold BX;rw[v9,Int.natCast_ediv];rfl
theorem EE(T:Txt K mg ad):cF P w K mg base iC 1 ad.xG ad.xV ["self","bound"] (Zn ad):=by
 refine T.qG.F.ok Eu (by rintro _ _ _ _ ⟨p,x,n,rfl,_⟩;rfl) (fun _ A _ s H vs Q E hr h=>?_)
 ·obtain⟨p,x,n,rfl,hn,⟨dx,hp⟩,hx,k⟩:=h;refine⟨_,(aC (eR (pv 0) (gF zZ (gF qR (gF KA (aQ (pv 0) rfl) (bS rfl T.Lq)) (bS rfl T.Oe)) (bS rfl T.UT)) rfl)
   (aJ (bj (gF zZ (gF WR (aQ (pv 0) rfl) (bS rfl T.QA)) (pv 1))))),?_⟩
  walk_at"";refine⟨p,_,dx,_,_,rfl,hp,T.uz,T.va,rfl,?_⟩;walk_at"";refine EH (.inl ⟨by omega,by omega⟩) ?_;walk_at"";refine EH (by decide) ?_;walk_at"";refine⟨p,_,dx,_,rfl,hp,T.uz,T.va,(by show 1<1000;decide),?_⟩;walk_at"";refine⟨p,_,dx,_,_,rfl,ak,T.uz,T.va,rfl,?_⟩;walk_at"";refine EH ⟨by decide,by decide+kernel⟩ ?_;walk_at"";refine EH hn ?_;have en:n=((n.toNat:Nat):Int):=by omega
  rw[W3,en,U1];exact k _ ⟨dx,ak⟩ fun b o e hb=>aX hb e
def aeU(ad:Ad):Sp:=fun vs H Q _=>E4 fun(p c:Addr) (x:Nat) (l:List Nat)=>A6 (vs=[.ref p,.ref c]) (H p=some (.lst (l.map nV))) (rC ad H c (x:Int)) (x<18446744073709551616) (l.length<=100000) (∀H',H' p=some (.lst ((oZ (l.length-1) (x,l)).2.map nV))->rC ad H' c (((oZ (l.length-1) (x,l)).1:Nat):Int)->(∀b o,H b=some o->b≠p->b≠c->H' b=some o)->Q .lC H')
theorem RN(x:Nat):jb x<18446744073709551616:=iX _ (by decide)
theorem Pp(l:List Nat)(i n:Nat):(l.map nV).set i (nV n)=(l.set i n).map nV:=by rw[List.map_set]
theorem acJ(T:Txt K mg ad):cF P w K mg base iC 2 ad.abK ad.abR ["sheet","chance"] (aeU ad):=by
 refine T.Q0.F.ok Kf (by rintro _ _ _ _ ⟨p,c,x,l,rfl,_⟩;rfl) (fun _ A _ s H vs Q E hr h=>?_)
 ·obtain⟨p,c,x,l,rfl,hp,hc,hx,hl,k⟩:=h;refine⟨_,(aJ (jP ck rfl (I0 rfl T.De (af (gF CK (bH bg (by rfl) T.jx aV (af (pv 0) ay)) aS) (af aS (af (MW FO aS) ay)))) (cv (i:=2) Kf.nd rfl (be rfl))
   (aC (cf (i:=3) Kf.nd rfl (be rfl) (gg (pv 1) T.uz T.qG.m (EE T) hr.mono T.qG.b .nil bp (af (gF qR (pv 2) aS) ay)))
   (aC (cf (i:=4) Kf.nd rfl (be rfl) (eB cj (pv 0) (pv 2) (fun _ _=>rfl)))
   (aC (PF (eB cj (pv 0) (pv 3) (fun _ _=>rfl)) (PJ (pv 0) (pv 2) set_list))
   (aJ (PF (pv 4) (PJ (pv 0) (pv 3) set_list)))))))),?_⟩
  walk_at"";refine⟨p,_,rfl,.inl (bW.of hp),?_⟩;walk_at"";have hlen:(l.map nV).length=l.length:=ae _;rw[hlen];refine⟨_,_,_,_,rfl,RgC.neg (by omega) (by omega) (by decide) (by decide),?_⟩;have hn:((l.length:Int)-1-0).toNat=l.length-1:=by omega
  rw[hn];refine Qr (fun i σ H'=>∃(v2 v3 v4:Option V) (y:Nat) (m:List Nat),σ=[some (.ref p),some (.ref c),v2,v3,v4]/\H' p=some (.lst (m.map nV))/\rC ad H' c (y:Int)/\y<18446744073709551616/\m.length=l.length/\
   oZ (l.length-1-i) (y,m)=oZ (l.length-1) (x,l)/\(∀b o,H b=some o->b≠p->b≠c->H' b=some o)) ⟨none,none,none,x,l,rfl,hp,hc,hx,rfl,rfl,fun b o e _ _=>e⟩ ?_ ?_
  ·rintro i σ H' hi ⟨v2,v3,v4,y,m,rfl,vU,⟨dc,Sg⟩,hy,hm,Xv,fr⟩;have hpc:p≠c:=uj vU Sg (by intro z;cases z);have ei:(l.length:Int)-1+(i:Int)* -1=((l.length-1-i:Nat):Int):=by omega
   rw[ei];obtain⟨q,hq⟩:∃q,l.length-1-i=q+1:=⟨l.length-1-i-1,by omega⟩;rw[hq]at Xv⊢;walk_at"";refine⟨_,_,_,rfl,Sg,rfl,?_⟩;walk_at"";refine⟨c,y,_,rfl,by omega,⟨dc,Sg⟩,hy,fun H2 hc2 b2=>?_⟩;have Vm:H2 p=some (.lst (m.map nV)):=b2 _ _ vU hpc;have ej:(((q+1:Nat):Int)+1).toNat=q+2:=by omega
   rw[ej];generalize hj:BX (jb y) (q+2)=j;have amR:j<q+2:=by rw[<-hj];exact iX _ (by omega)
   walk_at"";refine eO (bW.of Vm) (Yp (by omega) (by omega)) ?_;walk_at"";refine eO (bW.of Vm) (Yp (by omega) (by omega)) ?_;walk_at"";refine Qo Vm (RW (by omega) (by rw[ae];omega)) ?_;walk_at"";refine Qo ak (RW (by omega) (by rw[dD,ae];omega)) ?_;have e1:(((q+1:Nat):Int)).toNat=q+1:=by omega
   have e2:((j:Int)).toNat=j:=by omega
   rw[e1,e2,Pp,Pp];refine⟨_,_,_,jb y,Vbdcaq.swapAt m (q+1) j,rfl,ak,?_,RN y,?_,?_,?_⟩
   ·obtain⟨d2,h2⟩:=hc2;exact⟨d2,aX (bT hpc) (aX (bT hpc) h2)⟩
   ·rw[Ma.y1];exact hm
   ·rw[<-Xv,Ma.Bi,hj];have:l.length-1-(i+1)=q:=by omega
    rw[this]
   ·intro b o e hb1 hb2;exact aX hb1 (aX hb1 (b2 _ _ (fr b o e hb1 hb2) hb2))
  ·rintro σ H' ⟨v2,v3,v4,y,m,rfl,vU,Sg,hy,hm,Xv,fr⟩;have e0:l.length-1-(l.length-1)=0:=by omega
   rw[e0,Ma.Bh]at Xv;rw[<-Xv]at k;exact k H' vU Sg fr
def soF(a b c:Int):List (Str×V):=[("class_number",.int a),("colours",.int b),("copies",.int c)]
def Ys(ad:Ad)(H:Hp)(x:Addr)(k:iI):Prop:=∃dx,H x=some (.ins ad.rD dx (soF k.cls k.colours k.copies))
def Pe(ad:Ad):Sp:=fun vs H Q _=>E5 fun(p dx:Addr) (a b c:Int)=>A3 (vs=[.ref p,.int a,.int b,.int c]) (H p=some (.ins ad.rD dx [])) (∀H',H' p=some (.ins ad.rD dx (soF a b c))->ye p H H'->Q .lC H')
theorem KI(T:Txt K mg ad):cF P w K mg base iC 1 ad.D0 ad.Ec ["self","class_number","colours","copies"] (Pe ad):=by
 refine T.wj.F.ok Kk (by rintro _ _ _ _ ⟨p,dx,a,b,c,rfl,_⟩;rfl) (fun _ A _ s H vs Q E hr h=>?_)
 ·obtain⟨p,dx,a,b,c,rfl,hp,k⟩:=h;refine⟨_,(aC (eR (pv 0) (pv 1) rfl)
   (aC (eR (pv 0) (pv 2) rfl)
   (aJ (eR (pv 0) (pv 3) rfl)))),?_⟩
  walk_at"";refine⟨p,_,dx,_,rfl,hp,T.yH,T.pV,by decide,?_⟩;walk_at"";refine⟨p,_,dx,_,rfl,ak,T.yH,T.xf,(by show 1<1000;decide),?_⟩;walk_at"";refine⟨p,_,dx,_,rfl,ak,T.yH,T.zf,(by show 2<1000;decide),?_⟩;exact k _ ak fun b o e hb=>aX hb (aX hb (aX hb e))
structure lY(ad:Ad)(H:Hp)(p:Addr)(ks:List iI):Prop where
 ex:∃as:List Addr,H p=some (.lst (as.map V.ref))/\as.length=ks.length/\∀(j:Nat) (a:Addr) (kd:iI),as[j]? =some a->ks[j]? =some kd->Ys ad H a kd
theorem lY.same{ad:Ad}{H H':Hp}{p:Addr}{ks:List iI}(h:lY ad H p ks)(s:a7 H H'):lY ad H' p ks:=by
 obtain⟨as,h1,h2,h3⟩:=h.ex;exact⟨as,s _ _ h1,h2,fun j a kd ha hk=>let ⟨dx,e⟩:=h3 j a kd ha hk;⟨dx,s _ _ e⟩⟩
def TB(ad:Ad):Sp:=fun vs H Q _=>E3 fun(p:Addr) (k:Int) (st:iy)=>A6 (vs=[.ref p,.int k]) (lY ad H p st.kinds) (0<=k) (st.kinds.length<=64) (∀c∈st.kinds,c.copies<=20) (∀H' q,a7 H H'->H q=none->H' q=some (.lst ((hC st k.toNat).map nV))->Q (.ref q) H')
def IW(st:iy)(k i:Nat):List Nat:=match st.kinds[i]? with
 |some c=>if c.cls=k then aO c.copies i else []
 |none=>[]
def DC(st:iy)(k n:Nat):List Nat:=(aG n).flatMap (IW st k)
theorem zV(st:iy)(k n:Nat):DC st k (n+1)=DC st k n++IW st k n:=by
 unfold DC;rw[dj,gC];simp
theorem Cz{st:iy}(k:Nat)(h:∀c∈st.kinds,c.copies<=20):∀n,(DC st k n).length<=20*n
 |0=>ao _
 |n+1=>by
  rw[zV,ai];have:=Cz k h n;have:(IW st k n).length<=20:=by
   unfold IW;split
   ·rename_i c hc;split
    ·rw[dS];exact h c (bC hc)
    ·exact bK _
   ·exact bK _
  omega
theorem Rr(n:Nat)(x:V):(aO n [x]).flatten=aO n x:=by
 induction n with
 |zero=>rfl
 |succ n ih=>rw[iE,oo,ih,iE];rfl
theorem CM(T:Txt K mg ad):cF P w K mg base iC 1 ad.vG ad.vJ ["sorts","class_number"] (TB ad):=by
 refine T.lR.F.ok kU (by rintro _ _ _ _ ⟨p,k,st,rfl,_⟩;rfl) (fun _ A _ s H vs Q E hr h=>?_)
 ·obtain⟨p,k,st,rfl,⟨as,hp,hlen,Jt⟩,h0,h64,h20,kk⟩:=h;refine⟨_,(aC (cf (i:=2) kU.nd rfl (be rfl) (fg ay))
   (aC (jP ck rfl (A7 rfl T.mr (af (pv 0) ay)) (tI rfl (fR (cv (i:=3) kU.nd rfl (be rfl)) (fR (cv (i:=4) kU.nd rfl (be rfl)) oT)))
   (aJ (i6 (eP vC (aQ (pv 4) rfl) (pv 1) (fP _))
   (aJ (eu (lr a9 dH dG kZ (pv 2) (af (gF acF (fg (af (pv 3) ay)) (aQ (pv 4) rfl)) ay))))
   eZ)))
   (aJ (bj (pv 2))))),?_⟩
  walk_at"";refine⟨by decide,fun q hq=>?_⟩;walk_at"";refine⟨p,_,rfl,bW.of (bq hq hp),?_⟩;have aiP:(as.map V.ref).length=st.kinds.length:=by rw[ae,hlen]
  refine Bq (xs:=as.map V.ref) (fun i σ H'=>∃(v3 v4:Option V),σ=[some (.ref p),some (.int k),some (.ref q),v3,v4]/\a7 H H'/\H' q=some (.lst ((DC st k.toNat i).map nV)))
   ⟨none,none,rfl,aP _ hq,ak⟩ (fun i σ H' _ ⟨_,_,_,s1,_⟩=>bW.of (s1 _ _ hp)) ?_ ?_
  ·rintro i x σ H' tt hx ⟨v3,v4,rfl,s1,lU⟩ hT;obtain⟨a,ha,rfl⟩:∃a,as[i]? =some a/\x=V.ref a:=by
    rw[cI]at hx;cases e:as[i]? with
    |none=>rw[e]at hx;cases hx
    |some a=>rw[e]at hx;exact⟨a,rfl,(ax hx).symm⟩
   have hi:i<st.kinds.length:=by rw[<-hlen];exact(aw.mp ha).1
   obtain⟨kd,hk⟩:∃kd,st.kinds[i]? =some kd:=⟨_,aB hi⟩;obtain⟨dx,hs⟩:=Jt i a kd ha hk;have afB:IW st k.toNat i=if kd.cls=k.toNat then aO kd.copies i else []:=by unfold IW;rw[hk]
   refine zj (wa.of ak) rfl ?_;walk_at"";refine⟨a,_,dx,_,_,rfl,bq hT (s1 _ _ hs),T.yH,T.pV,rfl,?_⟩;walk_at"";refine ik (fun c=>?_) fun c=>?_
   ·have c:=of_decide_eq_true c;walk_at"";refine⟨.inl ⟨rfl,_,bW.of (bq hT lU)⟩,?_⟩;walk_at"";refine⟨by show 1<=sizeLine;decide,fun p1 zh=>?_⟩;walk_at"";refine⟨a,_,dx,_,_,rfl,bq zh (bq hT (s1 _ _ hs)),T.yH,T.zf,rfl,?_⟩;have anq:=h20 kd (bC hk);refine⟨p1,_,_,rfl,rfl,ak,by omega,by omega,?_,fun p2 Vm=>?_⟩
    ·show 1*(kd.copies:Int).toNat<=sizeLine;have:(20:Nat)<=sizeLine:=by decide
     omega
    ·have hlq:=Cz (st:=st) k.toNat h20 i;walk_at"";refine Bp (bq Vm (bq zh (bq hT lU))) ak ?_ ?_
     ·rw[Rr,dS,ae];have:(20000:Nat)<=sizeLine:=by decide
      omega
     ·have hn2:H p2=none:=s1.free (aP _ hT |>.free (aP _ zh |>.free Vm));refine⟨_,_,rfl,?_,?_⟩
      ·intro b o e;have nb:b≠q:=aR e hq;exact aX nb (bq Vm (bq zh (bq hT (s1 _ _ e))))
      ·have e1:(DC st k.toNat i).map nV++(aO ((kd.copies:Int).toNat) [V.int ((i:Nat):Int)]).flatten=(DC st k.toNat (i+1)).map nV:=by
        rw[Rr,zV,afB,if_pos (by omega),aF,List.map_replicate];rfl
       rw[<-e1];exact ak
   ·have c:=of_decide_eq_false (dX _▸c);walk_at"";refine⟨_,_,rfl,fun b o e=>bq hT (s1 _ _ e),?_⟩;rw[zV,afB,if_neg (by omega),cV];exact bq hT lU
  ·rintro σ H' ⟨v3,v4,rfl,s1,lU⟩;walk_at"";rw[aiP]at lU;exact kk H' q s1 hq lU
def pN(st:iy)(n:Nat):Nat×List (List Nat):=(aG n).foldl (fun(a:Nat×List (List Nat)) k=>
 let m:=oZ ((hC st k).length-1) (a.1,hC st k)
 (m.1,a.2++[m.2])) (st.seed,[])
theorem ph(st:iy)(n:Nat):pN st (n+1)=((oZ ((hC st n).length-1) ((pN st n).1,hC st n)).1,(pN st n).2++[(oZ ((hC st n).length-1) ((pN st n).1,hC st n)).2]):=by
 unfold pN;rw[Ma.gJ]
theorem GR(st:iy):∀n,(pN st n).2.length=n
 |0=>rfl
 |n+1=>by rw[ph,ai,GR st n];rfl
theorem Na:∀(i:Nat) (s:Nat×List Nat),s.1<18446744073709551616->(oZ i s).1<18446744073709551616
 |0,s,h=>by rw[Ma.Bh];exact h
 |i+1,s,h=>by rw[Ma.Bi];exact Na i _ (RN _)
theorem Jd{st:iy}(h:st.seed<18446744073709551616):∀n,(pN st n).1<18446744073709551616
 |0=>h
 |n+1=>by rw[ph];exact Na _ _ (Jd h n)
structure fW(H:Hp)(q:Addr)(ss:List Addr)(ls:List (List Nat)):Prop where
 lst:H q=some (.lst (ss.map V.ref))
 nd:(q::ss).Nodup
 len:ss.length=ls.length
 item:∀(j:Nat) (a:Addr) (l:List Nat),ss[j]? =some a->ls[j]? =some l->H a=some (.lst (l.map nV))
def Zk(ad:Ad):Sp:=fun vs H Q _=>E3 fun(p:Addr) (x:Int) (st:iy)=>A8 (vs=[.ref p,.int x]) (lY ad H p st.kinds) (0<=x) (x.toNat=st.seed) (x<18446744073709551616) (st.kinds.length<=64) (∀c∈st.kinds,c.copies<=20) (∀H' q ss,a7 H H'->(∀a∈q::ss,H a=none)->fW H' q ss (gU st)->Q (.ref q) H')
theorem Ac{α:Type}{l:List α}{a:α}(h:l.Nodup)(ha:a∉l):(l++[a]).Nodup:=by
 rw[gw];refine⟨h,by simp,fun x hx y hy e=>?_⟩;rw[aN.mp hy]at e;exact ha (e▸hx)
theorem EA(T:Txt K mg ad):cF P w K mg base iC 4 ad.xA ad.xN ["sorts","seed"] (Zk ad):=by
 refine T.mL.F.ok jX (by rintro _ _ _ _ ⟨p,x,st,rfl,_⟩;rfl) (fun _ A _ s H vs Q E hr h=>?_)
 ·obtain⟨p,x,st,rfl,Ie,hx0,akn,amm,h64,h20,kk⟩:=h;refine⟨_,(aC (cf (i:=2) jX.nd rfl (be rfl) (lT T.tw.m (GJ T) hr.mono rfl T.Ue T.tw.b .nil bp (af (pv 1) ay)))
   (aC (cf (i:=3) jX.nd rfl (be rfl) (fg ay))
   (aC (jP ck rfl (CC rfl T.De (af (bS rfl T.UX) ay)) (cv (i:=4) jX.nd rfl (be rfl))
   (aC (cf (i:=5) jX.nd rfl (be rfl) (bF (CM T) hr.mono rfl T.lR.g T.lR.F.kp T.lR.b .nil bp (af (pv 0) (af (pv 4) ay))))
   (aC (eu (bF (acJ T) hr.mono rfl T.Q0.g T.Q0.F.kp T.Q0.b .nil bp (af (pv 5) (af (pv 2) ay))))
   (aJ (eu (lr a9 cK cJ ju (pv 3) (af (pv 5) ay)))))))
   (aJ (bj (pv 3)))))),?_⟩
  walk_at"";intro c dc hc hdc j1;refine⟨c,dc,x,rfl,ak,fun H1 hc1 b1=>⟨rfl,?_⟩⟩;have s1:a7 H H1:=a7.made hc hdc b1;walk_at"";refine⟨by decide,fun q hq=>?_⟩;walk_at"";refine⟨_,rfl,by decide,by decide,?_⟩;have OO:H q=none:=s1.free hq;obtain⟨dc1,hc1⟩:=hc1;have hqc:c≠q:=aR hc1 hq;refine Jy (fun i σ H'=>∃(v4 v5:Option V) (ss:List Addr),σ=[some (.ref p),some (.int x),some (.ref c),some (.ref q),v4,v5]/\a7 H H'/\(∀a∈ss,H a=none)/\rC ad H' c (((pN st i).1:Nat):Int)/\fW H' q ss (pN st i).2)
   ⟨none,none,[],rfl,s1.trans (aP _ hq),fun a ha=>(by cases ha),⟨dc1,?_⟩,⟨ak,(by simp),rfl,fun j a l hj=>(by simp at hj)⟩⟩ ?_ ?_
  ·have e:((pN st 0).1:Int)=x:=by show(st.seed:Int)=x;omega
   rw[e];exact bq hq hc1
  ·rintro i σ H' hi ⟨v4,v5,ss,rfl,sh,hss,⟨dc',Sg⟩,L⟩;have hi4:i<4:=hi;walk_at"";refine⟨p,_,st,rfl,Ie.same sh,by omega,h64,h20,fun H2 r sr Uu Nz=>?_⟩;have ei:((0:Int)+(i:Int)).toNat=i:=by omega
   rw[ei]at Nz;walk_at"";have tQ:(hC st i).length<=20000:=by
    have:=Cz (st:=st) i h20 st.kinds.length;have e:DC st i st.kinds.length=hC st i:=rfl;rw[e]at this;omega
   refine⟨r,c,(pN st i).1,hC st i,rfl,Nz,⟨dc',sr _ _ Sg⟩,Jd (by omega) i,by omega,fun H3 hr3 hc3 b3=>?_⟩;have nrq:q≠r:=aR L.lst Uu;have nrc:c≠r:=aR Sg Uu;have nqc:q≠c:=uj L.lst Sg (by intro z;cases z);walk_at"";have vT:=b3 _ _ (sr _ _ L.lst) nrq nqc;refine⟨.inl ⟨rfl,_,bW.of vT⟩,?_⟩;walk_at"";have aiB:ss.length=i:=by rw[L.len,GR]
   refine xx vT (zg (by rw[ae,aiB];omega)) ?_;have nss:∀a∈ss,a≠q/\a≠r/\a≠c/\∃l,H' a=some (.lst l):=by
    intro a ha;obtain⟨j,hj⟩:=lx ha;have Qk:j<(pN st i).2.length:=by rw[<-L.len];exact(aw.mp hj).1
    have ht:=L.item j a _ hj (aB Qk);exact⟨fun e=>(cB.mp L.nd).1 (e▸ha),aR ht Uu,uj ht Sg (by intro z;cases z),_,ht⟩
   have hrH:H r=none:=sh.free Uu;have ncq:c≠q:=fun e=>nqc e.symm
   refine⟨_,_,ss++[r],rfl,?_,?_,?_,⟨?_,?_,?_,?_⟩⟩
   ·intro b o e;have n1:b≠q:=aR e OO;have n2:b≠r:=aR e hrH;have n3:b≠c:=aR e hc;exact aX n1 (b3 _ _ (sr _ _ (sh _ _ e)) n2 n3)
   ·intro a ha;rcases aH.mp ha with ha|ha
    ·exact hss a ha
    ·rw[aN.mp ha];exact hrH
   ·obtain⟨d3,h3⟩:=hc3;rw[ph];exact⟨d3,aX ncq h3⟩
   ·rw[aF];exact ak
   ·have:=L.nd;rw[<-FC];refine Ac this ?_;intro m;rcases aM.mp m with e|m
    ·exact nrq e.symm
    ·exact(nss r m).2.1 rfl
   ·rw[ph,ai,ai,L.len];rfl
   ·intro j a l hj hl;rw[ph]at hl;by_cases hjs:j<ss.length
    ·rw[cG hjs]at hj;rw[cG (by rw[<-L.len];exact hjs)]at hl;have ha:=nss a (bC hj);exact aX ha.1 (b3 _ _ (sr _ _ (L.item j a l hj hl)) ha.2.1 ha.2.2.1)
    ·have ej:j=ss.length:=by
      have:=(aw.mp hj).1;rw[ai]at this;simp at this;omega
     subst ej;rw[bY (ao _),hG]at hj;rw[L.len,bY (ao _),hG]at hl;have e1:r=a:=ax hj;have e2:=ax hl;subst e1;rw[<-e2];exact aX (fun e=>nrq e.symm) hr3
  ·rintro σ H' ⟨v4,v5,ss,rfl,sh,hss,_,L⟩;walk_at"";refine kk H' q ss sh ?_ L;intro a ha;rcases aM.mp ha with e|ha
   ·rw[e];exact OO
   ·exact hss a ha
abbrev wi(l m n:Int):Bool:=bf n l m
def acj(K:aq):Sp:=fun vs H Q _=>E4 fun(a:Addr) (l m:Int) (ns:List Int)=>A4 (vs=[.ref a,.int l,.int m]) (bW K H a (ns.map V.int)) (ns.length<=100000) (∀H',a7 H H'->Q (.bl (ns.all (wi l m))) H')
theorem get_map{α β:Type}{f:α->β}{l:List α}{i:Nat}{y:β}(h:(l.map f)[i]? =some y):∃x,l[i]? =some x/\y=f x:=by
 rw[cI]at h;cases e:l[i]? with
 |none=>rw[e]at h;cases h
 |some x=>rw[e]at h;exact⟨x,rfl,(ax h).symm⟩
theorem take_snoc{α:Type}{l:List α}{i:Nat}{x:α}(h:l[i]? =some x):l.take (i+1)=l.take i++[x]:=by
 rw[List.take_add_one,h];rfl
theorem a7.put{H H':Hp}{D:Addr}{o:HO}(hD:H D=none)(s:a7 H H'):a7 H (upd H' D o):=fun b u e=>aX (aR e hD) (s b u e)
theorem jd(T:Txt K mg ad):cF P w K mg base iC 2 ad.By ad.BF ["numbers","least","most"] (acj K):=by
 refine T.cC.F.ok tG (by rintro _ _ _ _ ⟨a,l,m,ns,rfl,_⟩;rfl) (fun _ A _ s H vs Q E hr h=>?_)
 ·obtain⟨a,l,m,ns,rfl,hS,hl,k⟩:=h;refine⟨_,(aJ (bj (bH (Yh rfl) (by rfl) T.agw HH (af (si rfl tG.nd (hJ (pv 0)) (gZ (N:=["numbers","least","most","number"]) (sc:=aL uY) (own:=[("number",3)]) (by decide+kernel)) (fun _ _ _ _ _=>(cv (i:=3) tG.nd rfl (be rfl) (jh rfl))) (fun _ _ _ _ _=>jO) (fun _ _ _ _ _=>(bF (iY T) hr.mono rfl T.cE.g T.cE.F.kp T.cE.b .nil bp (af (pv 3) (af (pv 1) (af (pv 2) ay)))))) ay)))),?_⟩;walk_at"";refine⟨a,rfl,⟨_,hS⟩,fun D hD=>?_⟩;refine k5 (xs:=ns.map V.int) (fun i H'=>a7 H H'/\H' D=some (.lst (((ns.take i).map (wi l m)).map V.bl))) ⟨aP _ hD,ak⟩ (fun i H' _ h=>h.1.seq hS) ?_ ?_
  ·rintro i x H' hx ⟨s1,mB⟩;obtain⟨z,hz,rfl⟩:=get_map hx;walk_at"";refine⟨rfl,?_⟩;walk_at"";refine oH ?_;walk_at"";refine⟨_,_,_,rfl,_,mB,zg ?_,a7.put hD s1,?_⟩
   ·rw[ae,ae,bt];omega
   ·rw[take_snoc hz,aF,aF];exact ak
  ·rintro H' ⟨s1,mB⟩;rw[ae,bJ]at mB;walk_at"";refine⟨D,_,rfl,bW.of mB,?_⟩;have e:(ns.map (wi l m)).all id=ns.all (wi l m):=by rw[rK];rfl
   rw[e];exact k H' s1
def V2(K:aq):Sp:=fun vs H Q _=>E2 fun(a:Addr) (ns:List Int)=>A4 (vs=[.ref a]) (bW K H a (ns.map V.int)) (ns.length<=100000) (∀H',a7 H H'->Q (.bl (ns.all (wi 0 15)&&wi 1 20 ns.sum)) H')
theorem KD(T:Txt K mg ad):cF P w K mg base iC 3 ad.DY ad.Ea ["recipe"] (V2 K):=by
 refine T.rR.F.ok Kh (by rintro _ _ _ _ ⟨a,ns,rfl,_⟩;rfl) (fun _ A _ s H vs Q E hr h=>?_)
 ·obtain⟨a,ns,rfl,hS,hl,k⟩:=h;refine⟨_,(aJ (bj (wW (bF (jd T) hr.mono rfl T.cC.g T.cC.F.kp T.cC.b .nil bp (af (pv 0) (af aS (af aS ay)))) (CD (bF (iY T) hr.mono rfl T.cE.g T.cE.F.kp T.cE.b .nil bp (af (bH (Yg rfl) (by rfl) T.agu HG (af (pv 0) ay)) (af aS (af aS ay)))))))),?_⟩;walk_at"";refine⟨a,_,_,ns,rfl,hS,hl,fun H' s1=>?_⟩;refine Qp ?_;refine ik (fun c=>?_) fun c=>?_
  ·rw[c]at k;walk_at"";refine⟨a,ns,rfl,s1.seq hS,?_⟩;walk_at"";refine⟨_,_,_,rfl,?_⟩;exact k H' s1
  ·rw[dX]at c;rw[c]at k;exact k H' s1
theorem NM{α β:Type}{f g:α->Option β}:∀ {l:List α},(∀a∈l,f a=g a)->l.filterMap f=l.filterMap g
 |[],_=>rfl
 |a::l,h=>by rw[gD,gD,h a ah,NM fun b hb=>h b (aA _ hb)]
theorem Sj{α β:Type}(f:α->β):∀(l:List α),l.filterMap (fun a=>some (f a))=l.map f
 |[]=>rfl
 |a::l=>by rw[gD,Sj f l];rfl
theorem A2{xs:List Int}{n j:Nat}(hl:xs.length=3*n)(hn:0<n)(hj:j<3):Gw (xs.map V.int) (some (j:Int)) none (some 3)=(Ma.yO xs j n).map V.int:=by
 unfold Gw sliceBounds;simp only[Option.getD_some,show(3:Int)>0 by decide,if_true,ae,hl,show ¬((j:Int)<0)by omega,if_false];have e1:max 0 (min (j:Int) ((3*n:Nat):Int))=(j:Int):=by omega
 rw[e1];unfold sliceRange;simp only[show(3:Int)>0 by decide,if_true,show(j:Int)<((3*n:Nat):Int)by omega];have e2:((((3*n:Nat):Int)-(j:Int)+3-1)/3).toNat=n:=by omega
 rw[e2];unfold Ma.yO;rw[List.filterMap_map,cO];refine Eq.trans (NM (g:=fun i=>some (V.int (xs.getD (3*i+j) 0))) fun i hi=>?_) (Sj _ _);have hi:=bG.mp hi;have e3:((j:Int)+3*(i:Int)).toNat=3*i+j:=by omega
 show(xs.map V.int)[((j:Int)+3*(i:Int)).toNat]? =some (V.int (xs.getD (3*i+j) 0));rw[e3,cI,aB (by omega),aW,aB (by omega)];rfl
def Tw(K:aq):Sp:=fun vs H Q _=>E2 fun(a:Addr) (ns:List Int)=>A4 (vs=[.ref a]) (bW K H a (ns.map V.int)) (ns.length<=100000) (∀H',a7 H H'->Q (.bl (iU ns&&(decide (3<=ns.length)&&decide (ns.length<=192)))) H')
theorem GH(T:Txt K mg ad):cF P w K mg base iC 3 ad.zu ad.zC ["row"] (Tw K):=by
 refine T.oS.F.ok Gc (by rintro _ _ _ _ ⟨a,ns,rfl,_⟩;rfl) (fun _ A _ s H vs Q E hr h=>?_)
 ·obtain⟨a,ns,rfl,hS,hl,k⟩:=h;refine⟨_,(aC (i6 (PW.pt (IU (eP RH (gF zZ (bH bg (by rfl) T.jx aV (af (pv 0) ay)) aS) aS (fP _)) (Cv (oB (kF (bF (iY T) hr.mono rfl T.cE.g T.cE.F.kp T.cE.b .nil bp (af (bH bg (by rfl) T.jx aV (af (pv 0) ay)) (af aS (af (gF KA aS (bS rfl T.BL)) ay)))))))))
   (aJ (bj WM))
   eZ)
   (aJ (bj (wW (bF (jd T) hr.mono rfl T.cC.g T.cC.F.kp T.cC.b .nil bp (af (yw (pv 0) (iS aS) sg (iS aS)) (af aS (af aS ay)))) (wW (bF (jd T) hr.mono rfl T.cC.g T.cC.F.kp T.cC.b .nil bp (af (yw (pv 0) (iS aS) sg (iS aS)) (af aS (af aS ay)))) (CD (bF (jd T) hr.mono rfl T.cC.g T.cC.F.kp T.cC.b .nil bp (af (yw (pv 0) (iS aS) sg (iS aS)) (af aS (af aS ay)))))))))),?_⟩
  walk_at"";refine⟨a,_,rfl,.inl hS,?_⟩;rw[ae];walk_at"";refine EH (by show(0:Int)<3;decide) ?_;walk_at"";refine ik (fun c=>?_) fun c=>?_
  ·walk_at"";refine oH ?_;walk_at"";have e:iU ns=false:=by
    cases q:iU ns with
    |false=>rfl
    |true=>
     have:=Ma.Nn q;have c:¬((ns.length:Int) %3=0):=by simpa using c
     omega
   rw[e]at k;exact k H (a7.refl H)
  ·have c:(ns.length:Int) %3=0:=by simpa using c
   walk_at"";refine⟨a,_,rfl,.inl hS,?_⟩;rw[ae];walk_at"";refine EH (.inl ⟨by decide,by decide⟩) ?_;walk_at"";refine⟨_,_,_,rfl,?_⟩;walk_at"";refine ik (fun c2=>?_) fun c2=>?_
   ·walk_at"";have e:(decide (3<=ns.length)&&decide (ns.length<=192))=false:=by
     rw[aT]at c2;rw[<-c2]
     congr 1
     ·exact decide_eq_decide.mpr (by omega)
     ·exact decide_eq_decide.mpr (by omega)
    rw[e,JX]at k;exact k H (a7.refl H)
   ·walk_at"";have e:(decide (3<=ns.length)&&decide (ns.length<=192))=true:=by
     rw[aT,gy]at c2;rw[<-c2]
     congr 1
     ·exact decide_eq_decide.mpr (by omega)
     ·exact decide_eq_decide.mpr (by omega)
    have hb:3<=ns.length/\ns.length<=192:=by simpa using e
    obtain⟨n,hn⟩:∃n,ns.length=3*n:=⟨ns.length/3,by omega⟩;have hn0:0<n:=by omega
    rw[e,eM,Ma.sA n ns hn]at k;have tl:∀j,(Ma.yO ns j n).length<=100000:=by intro j;unfold Ma.yO;rw[ae,ba];omega
    refine⟨a,_,rfl,hS,(by decide),fun p0 hp0=>?_⟩;rw[show(0:Int)=((0:Nat):Int)from rfl,A2 hn hn0 (by decide)];walk_at"";refine⟨p0,_,_,_,rfl,bW.of ak,tl 0,fun H1 s1=>?_⟩;have s1:a7 H H1:=(aP _ hp0).trans s1;refine Qp ?_;refine ik (fun d0=>?_) fun d0=>?_
    ·have d0':((Ma.yO ns 0 n).all fun x=>bf x 0 3)=true:=d0;rw[d0',fO]at k;walk_at"";refine⟨a,_,rfl,s1.seq hS,(by decide),fun p1 zh=>?_⟩;rw[show(1:Int)=((1:Nat):Int)from rfl,A2 hn hn0 (by decide)];walk_at"";refine⟨p1,_,_,_,rfl,bW.of ak,tl 1,fun H2 s2=>?_⟩;have s2:a7 H H2:=s1.trans ((aP _ zh).trans s2);refine Qp ?_;refine ik (fun d1=>?_) fun d1=>?_
     ·have d1':((Ma.yO ns 1 n).all fun x=>bf x 0 15)=true:=d1;rw[d1',fO]at k;walk_at"";refine⟨a,_,rfl,s2.seq hS,(by decide),fun p2 Vm=>?_⟩;rw[show(2:Int)=((2:Nat):Int)from rfl,A2 hn hn0 (by decide)];walk_at"";refine⟨p2,_,_,_,rfl,bW.of ak,tl 2,fun H3 s3=>?_⟩;exact k H3 (s2.trans ((aP _ Vm).trans s3))
     ·have d1':((Ma.yO ns 1 n).all fun x=>bf x 0 15)=false:=by rw[dX]at d1;exact d1
      rw[d1',ly]at k;exact k H2 s2
    ·have d0':((Ma.yO ns 0 n).all fun x=>bf x 0 3)=false:=by rw[dX]at d0;exact d0
     rw[d0',ly]at k;exact k H1 s1
theorem E9{H H':Hp}{p a C dx:Addr}{fs:List (Str×V)}{xs:List V}(hp:H p=some (.ins C dx fs))(b:ye p H H')(h:bW K H a xs):bW K H' a xs:=by
 rcases h with (h|⟨o,h⟩)|h
 ·exact .inl (.inl (b _ _ h (uj h hp (by intro z;cases z))))
 ·exact .inl (.inr ⟨o,b _ _ h (uj h hp (by intro z;cases z))⟩)
 ·exact .inr h
def rdF(la:Addr)(i:Int):List (Str×V):=[("calls",.ref la),("place",.int i)]
def LB(ad:Ad)(H:Hp)(p la:Addr)(i:Nat):Prop:=∃dx,H p=some (.ins ad.kO dx (rdF la (i:Int)))
def J9(ad:Ad):Sp:=fun vs H Q _=>E3 fun(p dx la:Addr)=>A3 (vs=[.ref p,.ref la]) (H p=some (.ins ad.kO dx [])) (∀H',LB ad H' p la 0->ye p H H'->Q .lC H')
theorem GI(T:Txt K mg ad):cF P w K mg base iC 1 ad.zv ad.zD ["self","calls"] (J9 ad):=by
 refine T.tq.F.ok Gd (by rintro _ _ _ _ ⟨p,dx,la,rfl,_⟩;rfl) (fun _ A _ s H vs Q E hr h=>?_)
 ·obtain⟨p,dx,la,rfl,hp,k⟩:=h;refine⟨_,(aC (eR (pv 0) (pv 1) rfl)
   (aJ (eR (pv 0) aS rfl))),?_⟩
  walk_at"";refine⟨p,_,dx,_,rfl,hp,T.gK,T.qU,by decide,?_⟩;walk_at"";refine⟨p,_,dx,_,rfl,ak,T.gK,T.kH,(by show 1<1000;decide),?_⟩;exact k _ ⟨dx,ak⟩ fun b o e hb=>aX hb (aX hb e)
def acf(K:aq)(ad:Ad):Sp:=fun vs H Q _=>E4 fun(p la:Addr) (i:Nat) (ns:List Int)=>A4 (vs=[.ref p]) (LB ad H p la i) (bW K H la (ns.map V.int)) (Q (.bl (decide (i<ns.length))) H)
theorem z6(T:Txt K mg ad):cF P w K mg base iC 1 ad.sH ad.sQ ["self"] (acf K ad):=by
 refine T.mQ.F.ok zS (by rintro _ _ _ _ ⟨p,la,i,ns,rfl,_⟩;rfl) (fun _ A _ s H vs Q E hr h=>?_)
 ·obtain⟨p,la,i,ns,rfl,⟨dx,hp⟩,hL,k⟩:=h;refine⟨_,(aJ (bj (yy RI (aQ (pv 0) rfl) (bH bg (by rfl) T.jx aV (af (aQ (pv 0) rfl) ay)) (fP _)))),?_⟩;walk_at"";refine⟨p,_,dx,_,_,rfl,hp,T.gK,T.kH,rfl,?_⟩;walk_at"";refine⟨p,_,dx,_,_,rfl,hp,T.gK,T.qU,rfl,?_⟩;walk_at"";refine⟨la,_,rfl,.inl hL,?_⟩;walk_at"";have e:decide ((i:Int)<(((ns.map V.int).length:Nat):Int))=decide (i<ns.length):=by
   rw[ae];exact decide_eq_decide.mpr (by omega)
  rw[e];exact k
def ace(K:aq)(ad:Ad):Sp:=fun vs H Q _=>E5 fun(p la:Addr) (i:Nat) (n:Int) (ns:List Int)=>A6 (vs=[.ref p,.int n]) (LB ad H p la i) (bW K H la (ns.map V.int)) (0<=n) (i+n.toNat<=ns.length) (∀H' q,LB ad H' p la (i+n.toNat)->ye p H H'->H q=none->H' q=some (.lst (((ns.drop i).take n.toNat).map V.int))->Q (.ref q) H')
theorem Ye{ns:List Int}{i m:Nat}(h:i+m<=ns.length):qt (ns.map V.int) (some (i:Int)) (some ((i:Int)+(m:Int)))=((ns.drop i).take m).map V.int:=by
 unfold qt;rw[show((i:Int)+(m:Int))=((i+m:Nat):Int)by omega,HT.Fd,HT.Fd,ae,mI (show i<=ns.length by omega),mI h,<-List.map_drop,<-List.map_take];rw[show i+m-i=m by omega]
theorem jQ(T:Txt K mg ad):cF P w K mg base iC 1 ad.nX ad.nY ["self","how_many"] (ace K ad):=by
 refine T.eJ.F.ok mY (by rintro _ _ _ _ ⟨p,la,i,n,ns,rfl,_⟩;rfl) (fun _ A _ s H vs Q E hr h=>?_)
 ·obtain⟨p,la,i,n,ns,rfl,⟨dx,hp⟩,hL,h0,hle,k⟩:=h;obtain⟨m,rfl⟩:∃m:Nat,n=(m:Int):=⟨n.toNat,by omega⟩;rw[bB]at hle k;refine⟨_,(aC (cf (i:=2) mY.nd rfl (be rfl) (qQ uR (aQ (pv 0) rfl) (iS (aQ (pv 0) rfl)) (iS (gF qR (aQ (pv 0) rfl) (pv 1)))))
   (aC (Cy (pv 0) (pv 1) Qi)
   (aJ (bj (pv 2))))),?_⟩
  walk_at"";refine⟨p,_,dx,_,_,rfl,hp,T.gK,T.qU,rfl,?_⟩;walk_at"";refine⟨p,_,dx,_,_,rfl,hp,T.gK,T.kH,rfl,?_⟩;walk_at"";refine⟨p,_,dx,_,_,rfl,hp,T.gK,T.kH,rfl,?_⟩;walk_at"";refine⟨la,_,rfl,hL,fun q hq=>?_⟩;rw[Ye hle];have hpq:p≠q:=aR hp hq;walk_at"";refine⟨p,_,dx,_,_,rfl,bq hq hp,T.gK,T.kH,rfl,?_⟩;walk_at"";refine⟨_,_,rfl,rfl,dx,_,bq hq hp,(by show 2<1000;decide),?_⟩;walk_at"";refine k _ q ⟨dx,?_⟩ (fun b o e hb=>aX hb (bq hq e)) hq (aX (bT hpq) ak);rw[show((i+m:Nat):Int)=(i:Int)+(m:Int)by omega];exact ak
def aeS(K:aq)(ad:Ad):Sp:=fun vs H Q _=>E5 fun(p la:Addr) (i:Nat) (ns:List Int) (z:Int)=>A5 (vs=[.ref p]) (LB ad H p la i) (bW K H la (ns.map V.int)) (ns[i]? =some z) (∀H',LB ad H' p la (i+1)->ye p H H'->Q (.int z) H')
theorem nW(T:Txt K mg ad):cF P w K mg base iC 2 ad.pB ad.pC ["self"] (aeS K ad):=by
 refine T.gX.F.ok vQ (by rintro _ _ _ _ ⟨p,la,i,ns,z,rfl,_⟩;rfl) (fun _ A _ s H vs Q E hr h=>?_)
 ·obtain⟨p,la,i,ns,z,rfl,⟨dx,hp⟩,hL,hz,k⟩:=h;have hi:i<ns.length:=(aw.mp hz).1;refine⟨_,(aJ (bj (eB cj (gg (pv 0) T.gK T.eJ.m (jQ T) hr.mono T.eJ.b .nil bp (af aS ay)) aS (fun _ _=>rfl)))),?_⟩;walk_at"";refine⟨p,dx,_,rfl,hp,rfl,?_⟩;walk_at"";refine⟨p,la,i,1,ns,rfl,⟨dx,hp⟩,hL,by decide,by show i+1<=ns.length;omega,fun H' q h1 b1 hq lU=>?_⟩;walk_at"";have e:((ns.drop i).take (1:Int).toNat)=[z]:=by
   show(ns.drop i).take 1=[z];rw[LO hi];rw[aB hi]at hz;rw[ax hz];rfl
  rw[e]at lU;refine eO (bW.of lU) rfl ?_;exact k H' h1 b1
def caF(p:Nat)(na ra:Addr):List (Str×V):=[("number",.int p),("numbers",.ref na),("row",.ref ra)]
structure vm(ad:Ad)(H:Hp)(x:Addr)(p:Nat)(a r:List Int):Prop where
 ex:∃dx na ra,H x=some (.ins ad.nG dx (caF p na ra))/\H na=some (.lst (a.map V.int))/\H ra=some (.lst (r.map V.int))
theorem vm.same{ad:Ad}{H H':Hp}{x:Addr}{p:Nat}{a r:List Int}(h:vm ad H x p a r)(s:a7 H H'):vm ad H' x p a r:=by
 obtain⟨dx,na,ra,h1,h2,h3⟩:=h.ex;exact⟨dx,na,ra,s _ _ h1,s _ _ h2,s _ _ h3⟩
def Pk(ad:Ad):Sp:=fun vs H Q _=>E5 fun(x dx:Addr) (n:Int) (na ra:Addr)=>A3 (vs=[.ref x,.int n,.ref na,.ref ra]) (H x=some (.ins ad.nG dx [])) (∀H',H' x=some (.ins ad.nG dx [("number",.int n),("numbers",.ref na),("row",.ref ra)])->ye x H H'->Q .lC H')
theorem Bg(T:Txt K mg ad):cF P w K mg base iC 1 ad.D8 ad.Eh ["self","number","numbers","row"] (Pk ad):=by
 refine T.o7.F.ok Kp (by rintro _ _ _ _ ⟨x,dx,n,na,ra,rfl,_⟩;rfl) (fun _ A _ s H vs Q E hr h=>?_)
 ·obtain⟨x,dx,n,na,ra,rfl,hp,k⟩:=h;refine⟨_,(aC (eR (pv 0) (pv 1) rfl)
   (aC (eR (pv 0) (pv 2) rfl)
   (aJ (eR (pv 0) (pv 3) rfl)))),?_⟩
  walk_at"";refine⟨x,_,dx,_,rfl,hp,T.dW,T.tM,by decide,?_⟩;walk_at"";refine⟨x,_,dx,_,rfl,ak,T.dW,T.cX,(by show 1<1000;decide),?_⟩;walk_at"";refine⟨x,_,dx,_,rfl,ak,T.dW,T.gI,(by show 2<1000;decide),?_⟩;exact k _ ak fun b o e hb=>aX hb (aX hb (aX hb e))
def ab8(K:aq)(ad:Ad):Sp:=fun vs H Q _=>E5 fun(p la:Addr) (i:Nat) (ns rest:List Int)=>E4 fun(c:List (List Int)) (pl:Nat) (a r:List Int)=>A6 (vs=[.ref p]) (LB ad H p la i) (bW K H la (ns.map V.int)) (ns.length<=100000) (ns.drop i=gB c++rest) (Ma.Form c pl a r/\∀H' x dx na ra,LB ad H' p la (i+(gB c).length)->ye p H H'->H x=none->H na=none->H ra=none->H' x=some (.ins ad.nG dx (caF pl na ra))->H' na=some (.lst (a.map V.int))->H' ra=some (.lst (r.map V.int))->Q (.ref x) H')
theorem Z6{q:Nat}(h:q<18):(if false=true then !inV (.int (q:Int)) [.int 0,.int 1,.int 14]else inV (.int (q:Int)) [.int 0,.int 1,.int 14])=Ma.mn q:=by
 rw[if_neg (by decide)];have:∀q:Nat,q<18->inV (.int (q:Int)) [.int 0,.int 1,.int 14]=Ma.mn q:=by decide+kernel
 exact this q h
theorem afF{q:Nat}(h:q<18):JL [V.int 8,.int 1,.int 1,.int 1,.int 1,.int 0,.int 1,.int 0,.int 1,.int 1,.int 1,.int 1,.int 1,.int 0,.int 0,.int 1,.int 1,.int 1] (q:Int)=some (.int ((Ma.hm.getD q 0:Nat):Int)):=by
 have:∀q:Nat,q<18->JL [V.int 8,.int 1,.int 1,.int 1,.int 1,.int 0,.int 1,.int 0,.int 1,.int 1,.int 1,.int 1,.int 1,.int 0,.int 0,.int 1,.int 1,.int 1] (q:Int)=some (.int ((Ma.hm.getD q 0:Nat):Int)):=by decide+kernel
 exact this q h
theorem Bn{ns:List Int}{i:Nat}{z:Int}{t:List Int}(h:ns.drop i=z::t):ns[i]? =some z:=by
 have:=congrArg (fun l=>l[0]?) h;rw[List.getElem?_drop]at this
 simpa using this
theorem C2{ns:List Int}{i:Nat}{a t:List Int}(h:ns.drop i=a++t):ns.drop (i+a.length)=t:=by
 rw[<-List.drop_drop,h,JV]
theorem ID{ns:List Int}{i:Nat}{a t:List Int}(h:ns.drop i=a++t):(ns.drop i).take a.length=a:=by
 rw[h,List.take_left]
theorem yQ(T:Txt K mg ad):cF P w K mg base iC 4 ad.rg ad.rk ["self"] (ab8 K ad):=by
 refine T.l8.F.ok ij (by rintro _ _ _ _ ⟨p,la,i,ns,rest,c,pl,a,r,rfl,_⟩;rfl) (fun _ A _ s H vs Q E hr h=>?_)
 ·obtain⟨p,la,i,ns,rest,c,pl,a,r,rfl,⟨dx,hp⟩,hL,hlen,xw,hf,k⟩:=h;have K0:=Ma.IV hf;refine⟨_,(aC (cf (i:=1) ij.nd rfl (be rfl) (gf (pv 0) T.gK T.gX.m (nW T) hr.mono T.gX.b .nil bp))
   (aC (cf (i:=2) ij.nd rfl (be rfl) (gg (pv 0) T.gK T.eJ.m (jQ T) hr.mono T.eJ.b .nil bp (af (eB Qc (wV rfl T.Ar) (pv 1) (fun _ _=>rfl)) ay)))
   (aC (cf (i:=3) ij.nd rfl (be rfl) (fg ay))
   (aC (i6 (eP T3 (pv 1) (wV rfl T.Dc) (by with_unfolding_all rfl))
   (aJ (cf (i:=3) ij.nd rfl (be rfl) (gg (pv 0) T.gK T.eJ.m (jQ T) hr.mono T.eJ.b .nil bp (af (gf (pv 0) T.gK T.gX.m (nW T) hr.mono T.gX.b .nil bp) ay))))
   eZ)
   (aJ (bj (lT T.o7.m (Bg T) hr.mono rfl T.RP T.o7.b .nil bp (af (pv 1) (af (pv 2) (af (pv 3) ay)))))))))),?_⟩
  walk_at"";refine⟨p,dx,_,rfl,hp,rfl,?_⟩;walk_at"";have hz:ns[i]? =some ((pl:Nat):Int):=by
   rw[K0]at xw;split at xw
   ·exact Bn xw
   ·exact Bn xw
  refine⟨p,la,i,ns,_,rfl,⟨dx,hp⟩,hL,hz,fun H1 h1 b1=>?_⟩;obtain⟨dx1,zh⟩:=h1;have hL1:=E9 hp b1 hL;have hn1:∀t,(if Ma.mn pl=true then((pl:Nat):Int)::(a++((r.length:Nat):Int)::r)else((pl:Nat):Int)::a)=t->∃t',t=((pl:Nat):Int)::(a++t')/\(Ma.mn pl=true->t'=((r.length:Nat):Int)::r)/\(Ma.mn pl=false->t'=[]):=by
   intro t ht;cases q:Ma.mn pl with
   |true=>rw[q,if_pos rfl]at ht;exact⟨_,ht.symm,fun _=>rfl,fun z=>(by cases z)⟩
   |false=>rw[q,if_neg (by decide)]at ht;exact⟨[],(by rw[cV];exact ht.symm),fun z=>(by cases z),fun _=>rfl⟩
  obtain⟨t',ht',G6,aft⟩:=hn1 _ rfl;rw[ht']at K0;have YW:ns.drop (i+1)=a++(t'++rest):=by
   rw[K0]at xw;have:=C2 (a:=[((pl:Nat):Int)]) (t:=a++(t'++rest)) (by rw[xw];simp);exact this
  walk_at"";refine⟨p,dx1,_,rfl,zh,rfl,?_⟩;walk_at"";refine XM (T.zU _) (afF hf.p18) ?_;walk_at"";rw[<-hf.len];have aiF:i+1+a.length<=ns.length:=by
   have:=congrArg nL YW;rw[jI,ai]at this;have:=(aw.mp hz).1;omega
  refine⟨p,la,i+1,_,ns,rfl,⟨dx1,zh⟩,hL1,by omega,by rw[bB];exact aiF,fun H2 na h2 b2 rL ac5=>?_⟩;rw[bB]at h2 ac5;rw[ID YW]at ac5;obtain⟨dx2,Vm⟩:=h2;have hL2:=E9 zh b2 hL1;have hd2:=C2 YW;walk_at"";refine⟨by decide,fun r0 Uu=>?_⟩;walk_at"";refine⟨_,_,rfl,.inr (T.Cu _),rfl,rfl,?_⟩;walk_at"";rw[Z6 hf.p18];have NB:=bq (o:=.lst []) Uu Vm;have Qj:=bq (o:=.lst []) Uu ac5;have hL3:bW K (upd H2 r0 (.lst [])) la (ns.map V.int):=(aP _ Uu).seq hL2;have hr3:upd H2 r0 (.lst []) r0=some (.lst ([]:List V)):=ak;have s3:a7 H2 (upd H2 r0 (.lst [])):=aP _ Uu;have nr0:H r0=none:=by
   cases e:H r0 with
   |none=>rfl
   |some o=>
    by_cases ep:r0=p
    ·rw[ep,Vm]at Uu;cases Uu
    ·rw[b2 _ _ (b1 _ _ e ep) ep]at Uu;cases Uu
  generalize upd H2 r0 (.lst [])=H3 at NB Qj hL3 hr3 s3⊢;have b3:ye p H H3:=fun b o e hb=>s3 _ _ (b2 _ _ (b1 _ _ e hb) hb)
  have fresh:∀ {H':Hp} {x:Addr},ye p H H'->(∃o,H' p=some o)->H' x=none->H x=none:=by
   intro H' x bb ⟨o,ho⟩ hx;cases e:H x with
   |none=>rfl
   |some u=>
    by_cases ep:x=p
    ·rw[ep,ho]at hx;cases hx
    ·rw[bb _ _ e ep]at hx;cases hx
  refine ik (fun cr=>?_) fun cr=>?_
  ·have e1:=G6 cr;have adf:ns.drop (i+1+a.length)=((r.length:Nat):Int)::(r++rest):=by rw[hd2,e1];rfl
   walk_at"";refine⟨p,dx2,_,rfl,NB,rfl,?_⟩;walk_at"";refine⟨p,dx2,_,rfl,NB,rfl,?_⟩;walk_at"";refine⟨p,la,_,ns,_,rfl,⟨dx2,NB⟩,hL3,Bn adf,fun H4 h4 b4=>?_⟩;obtain⟨dx4,hp4⟩:=h4;have hL4:=E9 NB b4 hL3;have YV:ns.drop (i+1+a.length+1)=r++rest:=C2 (a:=[((r.length:Nat):Int)]) (by rw[adf];rfl);have aiE:i+1+a.length+1+r.length<=ns.length:=by
    have:=congrArg nL YV;rw[jI,ai]at this;have:=(aw.mp (Bn adf)).1;omega
   walk_at"";refine⟨p,la,_,_,ns,rfl,⟨dx4,hp4⟩,hL4,by omega,by rw[bB];exact aiE,fun H5 ra h5 b5 pW acZ=>?_⟩;rw[bB]at h5 acZ;rw[ID YV]at acZ;obtain⟨dx5,hp5⟩:=h5;have aiw:=b5 _ _ (b4 _ _ Qj (uj Qj NB (by intro z;cases z))) (uj Qj NB (by intro z;cases z));have b5':ye p H H5:=fun b o e hb=>b5 _ _ (b4 _ _ (b3 b o e hb) hb) hb
   walk_at"";intro x dd hx hdd j1;refine⟨x,dd,_,na,ra,rfl,ak,fun H6 h6 b6=>⟨rfl,?_⟩⟩;have s6:a7 H5 H6:=a7.made hx hdd b6;refine k H6 x dd na ra ⟨dx5,?_⟩ (fun b o e hb=>s6 _ _ (b5' b o e hb)) (fresh b5' ⟨_,hp5⟩ hx) (fresh b1 ⟨_,zh⟩ rL) (fresh (fun b o e hb=>b4 _ _ (b3 b o e hb) hb) ⟨_,hp4⟩ pW) h6 (s6 _ _ aiw) (s6 _ _ acZ);have el:i+(gB c).length=i+1+a.length+1+r.length:=by
    rw[K0,e1,az,ai,az];omega
   rw[el];exact s6 _ _ hp5
  ·have cr:Ma.mn pl=false:=by simpa using cr
   have e1:=aft cr;have er:=hf.nil cr;subst er;walk_at"";intro x dd hx hdd j1;refine⟨x,dd,_,na,r0,rfl,ak,fun H6 h6 b6=>⟨rfl,?_⟩⟩;have s6:a7 H3 H6:=a7.made hx hdd b6;refine k H6 x dd na r0 ⟨dx2,?_⟩ (fun b o e hb=>s6 _ _ (b3 b o e hb)) (fresh b3 ⟨_,NB⟩ hx) (fresh b1 ⟨_,zh⟩ rL) nr0 h6 (s6 _ _ Qj) (s6 _ _ hr3);have el:i+(gB c).length=i+1+a.length:=by
    rw[K0,e1,cV,az];omega
   rw[el];exact s6 _ _ NB
def lA(n a b c d q r x:Int)(l:List Int):Int:=if Ma.tS n a b c d q r x l=true then(if iT (eD n a b c d q r x l)=true then-6 else 0)else-1
def Ms(ad:Ad):Sp:=fun vs H Q _=>E5 fun(dv cx:Addr) (n a b:Int)=>E5 fun(c d q r x:Int)=>∃l:List Int,A4 (vs=[.ref dv,.ref cx]) (vm ad H cx 0 [n,a,b,c,d,q,r,x] l) (l.length<=100000) (∀H',a7 H H'->Q (.int (lA n a b c d q r x l)) H')
theorem QD(n a b c d q r x:Int)(l:List Int):Ma.tS n a b c d q r x l=((((wi 2 8 n&&(([a,b,c,d].all (wi 0 15)&&wi 1 20 ([a,b,c,d].sum))&&wi 1 3 q))&&(wi 1 4 r&&wi 0 1000000000000000000 x)))&&(iU l&&(decide (3<=l.length)&&decide (l.length<=192)))):=by
 unfold Ma.tS;have e:[a,b,c,d].sum=a+b+c+d:=by simp[eK];omega
 rw[e];simp only[wi,dM,jk,eM];generalize bf n 2 8=b1;generalize bf a 0 15=b2;generalize bf b 0 15=b3;generalize bf c 0 15=b4;generalize bf d 0 15=b5;generalize bf q 1 3=b6;generalize bf r 1 4=b7;generalize bf x 0 1000000000000000000=b8;generalize bf (a+b+c+d) 1 20=b9;generalize (iU l&&(decide (3<=l.length)&&decide (l.length<=192)))=b10;cases b1<;>cases b2<;>cases b3<;>cases b4<;>cases b5<;>cases b6<;>cases b7<;>cases b8<;>cases b9<;>rfl
theorem Sa(k:Int)(ns:List Int):inV (.int k) (ns.map V.int)=ns.contains k:=by
 unfold inV;rw[En,List.contains_eq_any_beq]
 congr 1
 funext z
 show(z==k)=(k==z);exact Bool.beq_comm ..
theorem UK(ns:List Int):(ns.map V.int).all zk=true:=by
 rw[rK,bD];intro _ _;rfl
theorem Nm{n a b c d q r x:Int}{l:List Int}(h:Ma.LF n a b c d q r x l){m:Nat}(hm:l.length=3*m):iT (eD n a b c d q r x l)=true↔∃k,k<4/\0< [a,b,c,d].getD k 0/\(Ma.yO l 0 m).contains (k:Int)=false:=by
 have Uv:∀y∈Ma.yO l 0 m,0<=y:=by
  have q:=h.hk;rw[Ma.sA m l hm,aE,bD]at q;intro y hy;exact(Ma.gj.mp (q.1 y hy)).1
 have hk:=fun k=>Ma.HX (s:=eD n a b c d q r x l) (k:=k) fun c hc=>(Ma.xt h.hk c hc).2.2.1
 have hg:∀k,k<4->((([a.toNat,b.toNat,c.toNat,d.toNat]:List Nat).getD k 0 != 0)=true↔0< [a,b,c,d].getD k 0):=by
  intro k hk;have h1:=h.ha;have h2:=h.hb;have h3:=h.hc;have h4:=h.hd;rw[bne_iff_ne];match k,hk with
  |0,_=>show a.toNat≠0↔0<a;omega
  |1,_=>show b.toNat≠0↔0<b;omega
  |2,_=>show c.toNat≠0↔0<c;omega
  |3,_=>show d.toNat≠0↔0<d;omega
 unfold iT;rw[dg];constructor
 ·rintro⟨k,hk4,e⟩;have hk4:=bG.mp hk4;rw[aE]at e;refine⟨k,hk4,(hg k hk4).mp e.1,?_⟩;have e2:=e.2;rw[hk k]at e2;have e3:(eD n a b c d q r x l).kinds.any (fun c=>c.cls==k)=(Ma.yO l 0 m).contains (k:Int):=Ma.Jn hm Uv k;rw[e3,aT]at e2;exact e2
 ·rintro⟨k,hk4,e1,e2⟩;refine⟨k,bG.mpr hk4,?_⟩;rw[aE];refine⟨(hg k hk4).mpr e1,?_⟩;rw[hk k];have e3:(eD n a b c d q r x l).kinds.any (fun c=>c.cls==k)=(Ma.yO l 0 m).contains (k:Int):=Ma.Jn hm Uv k;rw[e3,e2];rfl
theorem CO(T:Txt K mg ad):cF P w K mg base iC 4 ad.lW ad.vK ["draft","call"] (Ms ad):=by
 refine T.pI.F.ok fQ (by rintro _ _ _ _ ⟨na,ra,n,a,b,c,d,q,r,x,l,rfl,_⟩;rfl) (fun _ A _ s H vs Q E hr h=>?_)
 ·obtain⟨dv,cx,n,a,b,c,d,q,r,x,l,rfl,ca,hl,k⟩:=h;obtain⟨dc,na,ra,hx,rL,pW⟩:=ca.ex;have hN:bW K H na ([n,a,b,c,d,q,r,x].map V.int):=bW.of rL;have hR:bW K H ra (l.map V.int):=bW.of pW;refine⟨_,(aC (cf (i:=2) fQ.nd rfl (be rfl) (aQ (pv 1) rfl))
   (aC (cf (i:=3) fQ.nd rfl (be rfl) (qQ uR (pv 2) (iS aS) (iS aS)))
   (aC (cf (i:=4) fQ.nd rfl (be rfl) (wW (bF (iY T) hr.mono rfl T.cE.g T.cE.F.kp T.cE.b .nil bp (af (eB cj (pv 2) aS (fun _ _=>rfl)) (af aS (af (bS rfl T.BM) ay)))) (wW (bF (KD T) hr.mono rfl T.rR.g T.rR.F.kp T.rR.b .nil bp (af (pv 3) ay)) (CD (bF (iY T) hr.mono rfl T.cE.g T.cE.F.kp T.cE.b .nil bp (af (eB cj (pv 2) aS (fun _ _=>rfl)) (af aS (af aS ay))))))))
   (aC (cf (i:=4) fQ.nd rfl (be rfl) (wW (pv 4) (wW (bF (iY T) hr.mono rfl T.cE.g T.cE.F.kp T.cE.b .nil bp (af (eB cj (pv 2) aS (fun _ _=>rfl)) (af aS (af aS ay)))) (CD (bF (iY T) hr.mono rfl T.cE.g T.cE.F.kp T.cE.b .nil bp (af (eB cj (pv 2) aS (fun _ _=>rfl)) (af aS (af (bS rfl T.Hu) ay))))))))
   (aC (i6 (PW.pt (IU (oB (kF (pv 4))) (Cv (oB (kF (bF (GH T) hr.mono rfl T.oS.g T.oS.F.kp T.oS.b .nil bp (af (aQ (pv 1) rfl) ay)))))))
   (aJ (bj (bS rfl T.jw)))
   eZ)
   (aC (cf (i:=5) fQ.nd rfl (be rfl) (yw (aQ (pv 1) rfl) (iS aS) sg (iS aS)))
   (aC (jP ck rfl (A7 rfl T.mr (af (pv 3) ay)) (tI rfl (fR (cv (i:=6) fQ.nd rfl (be rfl)) (fR (cv (i:=7) fQ.nd rfl (be rfl)) oT)))
   (aJ (i6 (PW.pt (Kv (eP zc (pv 7) aS (fP _)) (Ff (eP Bb (pv 6) (pv 5) (by with_unfolding_all rfl)))))
   (aJ (bj (bS rfl T.x9)))
   eZ)))
   (aJ (bj (bS rfl T.jS)))))))))),?_⟩
  walk_at"";refine⟨_,_,dc,_,_,rfl,hx,T.dW,T.cX,rfl,?_⟩;walk_at"";refine⟨na,_,rfl,hN,fun p hp=>?_⟩;have zh:upd H p (.lst (qt ([n,a,b,c,d,q,r,x].map V.int) (some 1) (some 5))) p=some (.lst ([a,b,c,d].map V.int)):=ak;have s0:=aP (.lst (qt ([n,a,b,c,d,q,r,x].map V.int) (some 1) (some 5))) hp;generalize upd H p (.lst (qt ([n,a,b,c,d,q,r,x].map V.int) (some 1) (some 5)))=H1 at zh s0⊢;refine Jv (XG ?_);refine Iy (fun v H'=>a7 H1 H'/\v=.bl (wi 2 8 n&&(([a,b,c,d].all (wi 0 15)&&wi 1 20 ([a,b,c,d].sum))&&wi 1 3 q))) ?_ fun hq=>?_
  ·rintro v H2 ⟨t1,rfl⟩;have s1:=s0.trans t1;refine Jv (XG ?_);refine Iy (fun v H'=>a7 H2 H'/\v=.bl ((wi 2 8 n&&(([a,b,c,d].all (wi 0 15)&&wi 1 20 ([a,b,c,d].sum))&&wi 1 3 q))&&(wi 1 4 r&&wi 0 1000000000000000000 x))) ?_ fun hq=>?_
   ·rintro v H3 ⟨t3,rfl⟩;have s3:=s1.trans t3;generalize hB1:((wi 2 8 n&&(([a,b,c,d].all (wi 0 15)&&wi 1 20 ([a,b,c,d].sum))&&wi 1 3 q))&&(wi 1 4 r&&wi 0 1000000000000000000 x))=B1;have hB:Ma.tS n a b c d q r x l=(B1&&(iU l&&(decide (3<=l.length)&&decide (l.length<=192)))):=by rw[QD,hB1]
    walk_at"";refine ik (fun c1=>?_) fun c1=>?_
    ·have e:B1=false:=by simpa using c1
     rw[e,ly]at hB;refine oH ?_;walk_at"";have e2:lA n a b c d q r x l=-1:=by unfold lA;rw[hB,if_neg (by decide)]
     rw[e2]at k;exact k H3 s3
    ·have e:B1=true:=by simpa using c1
     rw[e,fO]at hB;walk_at"";refine⟨_,_,dc,_,_,rfl,s3 _ _ hx,T.dW,T.gI,rfl,?_⟩;walk_at"";refine⟨ra,l,rfl,s3.seq hR,hl,fun H4 t4=>?_⟩;have s4:=s3.trans t4;walk_at"";refine ik (fun c2=>?_) fun c2=>?_
     ·have e3:(iU l&&(decide (3<=l.length)&&decide (l.length<=192)))=false:=by rw[aT]at c2;exact c2
      rw[e3]at hB;walk_at"";have e2:lA n a b c d q r x l=-1:=by unfold lA;rw[hB,if_neg (by decide)]
      rw[e2]at k;exact k H4 s4
     ·have e3:(iU l&&(decide (3<=l.length)&&decide (l.length<=192)))=true:=by rw[aT,gy]at c2;exact c2
      rw[e3]at hB;have xu:=Ma.As.mp hB;obtain⟨m,hm⟩:∃m,l.length=3*m:=⟨_,Ma.pq xu.hk⟩;have hm0:0<m:=by have:=xu.hl;omega
      walk_at"";refine⟨_,_,dc,_,_,rfl,s4 _ _ hx,T.dW,T.gI,rfl,?_⟩;walk_at"";refine⟨ra,_,rfl,s4.seq hR,(by decide),fun pc hpc=>?_⟩;rw[show(0:Int)=((0:Nat):Int)from rfl,A2 hm hm0 (by decide)];have s5:=s4.trans (aP (.lst ((Ma.yO l 0 m).map V.int)) hpc);have hc5:upd H4 pc (.lst ((Ma.yO l 0 m).map V.int)) pc=some (.lst ((Ma.yO l 0 m).map V.int)):=ak;have hp5:=bq (o:=.lst ((Ma.yO l 0 m).map V.int)) hpc (t4 _ _ (t3 _ _ (t1 _ _ zh)));generalize upd H4 pc (.lst ((Ma.yO l 0 m).map V.int))=H5 at s5 hc5 hp5⊢;walk_at"";refine⟨p,_,rfl,bW.of hp5,?_⟩;refine Bq (xs:=[a,b,c,d].map V.int) (fun i σ H'=>∃(v5 v6:Option V),σ=[some (.ref dv),some (.ref cx),some (.ref na),some (.ref p),some (.bl B1),some (.ref pc),v5,v6]/\a7 H5 H'/\
       ∀j,j<i->¬(0< [a,b,c,d].getD j 0/\(Ma.yO l 0 m).contains (j:Int)=false)) ⟨none,none,rfl,a7.refl _,fun j hj=>absurd hj (fc _)⟩ (fun i σ H' _ ⟨_,_,_,s6,_⟩=>bW.of (s6 _ _ hp5)) ?_ ?_
      ·rintro i z σ H' tt hz ⟨v5,v6,rfl,s6,Xu⟩ hT;obtain⟨y,hy,rfl⟩:=get_map hz;have hy':[a,b,c,d].getD i 0=y:=by rw[aW,hy];rfl
       have hi4:i<4:=(aw.mp hy).1;refine zj (wa.of ak) rfl ?_;walk_at"";refine ik (fun c3=>?_) fun c3=>?_
       ·have c3:0<y:=of_decide_eq_true c3;walk_at"";refine⟨pc,_,rfl,.inl (bW.of (bq hT (s6 _ _ hc5))),rfl,UK _,?_⟩;walk_at"";rw[if_pos rfl,Sa];refine ik (fun c4=>?_) fun c4=>?_
        ·rw[aT]at c4;walk_at"";have hlk:=(Nm xu hm).mpr ⟨i,hi4,by rw[hy'];exact c3,c4⟩;have e2:lA n a b c d q r x l=-6:=by unfold lA;rw[hB,if_pos rfl,hlk,if_pos rfl]
         rw[e2]at k;exact k _ (s5.trans (s6.trans (aP _ hT)))
        ·rw[aT,gy]at c4;walk_at"";refine⟨_,_,rfl,s6.trans (aP _ hT),fun j hj=>?_⟩;by_cases ej:j=i
         ·subst ej;intro hh;rw[c4]at hh;exact absurd hh.2 (by decide)
         ·exact Xu j (by omega)
       ·have c3:¬0<y:=by simpa using c3
        refine EF ?_;walk_at"";refine⟨_,_,rfl,s6.trans (aP _ hT),fun j hj=>?_⟩;by_cases ej:j=i
        ·subst ej;rw[hy'];exact fun hh=>c3 hh.1
        ·exact Xu j (by omega)
      ·rintro σ H' ⟨v5,v6,rfl,s6,Xu⟩;walk_at"";have hlk:iT (eD n a b c d q r x l)=false:=by
        cases e:iT (eD n a b c d q r x l)with
        |false=>rfl
        |true=>
         obtain⟨j,hj,hh⟩:=(Nm xu hm).mp e;exact absurd hh (Xu j hj)
       have e2:lA n a b c d q r x l=0:=by unfold lA;rw[hB,if_pos rfl,hlk,if_neg (by decide)]
       rw[e2]at k;exact k _ (s5.trans s6)
   ·walk_at"";refine ik (fun c1=>?_) fun c1=>?_
    ·rw[c1,fO]at hq;walk_at"";refine eO (s1.seq hN) rfl ?_;walk_at"";refine⟨_,_,_,rfl,?_⟩;refine Qp ?_;refine ik (fun c2=>?_) fun c2=>?_
     ·have c2:wi 1 4 r=true:=c2;rw[c2,fO]at hq;walk_at"";refine eO (s1.seq hN) rfl ?_;walk_at"";refine⟨_,_,_,rfl,?_⟩;exact hq _ _ ⟨a7.refl _,rfl⟩
     ·have c2:wi 1 4 r=false:=by rw[dX]at c2;exact c2
      rw[c2]at hq;exact hq _ _ ⟨a7.refl _,rfl⟩
    ·rw[dX]at c1;rw[c1]at hq;exact hq _ _ ⟨a7.refl _,rfl⟩
  ·walk_at"";refine eO (s0.seq hN) rfl ?_;walk_at"";refine⟨_,_,_,rfl,?_⟩;refine Qp ?_;refine ik (fun c1=>?_) fun c1=>?_
   ·have c1:wi 2 8 n=true:=c1;rw[c1,fO]at hq;walk_at"";refine⟨p,_,rfl,bW.of zh,by show 4<=100000;decide,fun H2 s2=>?_⟩;refine Qp ?_;refine ik (fun c2=>?_) fun c2=>?_
    ·rw[c2,fO]at hq;walk_at"";refine eO (s2.seq (s0.seq hN)) rfl ?_;walk_at"";refine⟨_,_,_,rfl,?_⟩;exact hq _ _ ⟨s2,rfl⟩
    ·rw[dX]at c2;rw[c2]at hq;exact hq _ _ ⟨s2,rfl⟩
   ·have c1:wi 2 8 n=false:=by rw[dX]at c1;exact c1
    rw[c1]at hq;exact hq _ _ ⟨a7.refl _,rfl⟩
def dN(bx:Ma.NN):List (Key×V):=bx.map fun x=>(da (x.1:Int),nV x.2)
theorem yC(a b:Nat):((da (a:Int):Key)=da (b:Int))↔a=b:=by
 constructor
 ·intro h;have:=Sum.inl.inj h;omega
 ·intro h;rw[h]
theorem adP(bx:Ma.NN)(k:Nat):p9 (dN bx) (da (k:Int))=(Ma.xl bx k).map nV:=by
 unfold p9 dN Ma.xl;rw[List.find?_map];have e:((fun kv:Key×V=>decide (kv.1=da (k:Int)))∘fun x:Nat×Nat=>((da (x.1:Int):Key),nV x.2))=fun x=>decide (x.1=k):=by
  funext x
  exact decide_eq_decide.mpr (yC x.1 k)
 rw[e];cases bx.find? fun x=>decide (x.1=k)<;>rfl
theorem adQ(bx:Ma.NN)(k v:Nat):putK (dN bx) (da (k:Int)) (nV v)=dN (Ma.putN bx k v):=by
 unfold putK Ma.putN dN;rw[En];have e:((fun kv:Key×V=>decide (kv.1=da (k:Int)))∘fun x:Nat×Nat=>((da (x.1:Int):Key),nV x.2))=fun x=>decide (x.1=k):=by
  funext x
  exact decide_eq_decide.mpr (yC x.1 k)
 rw[e];split
 ·rw[cO,cO];apply bU;intro x _;show(if (da (x.1:Int):Key)=da (k:Int)then((da (x.1:Int):Key),nV v)else(da (x.1:Int),nV x.2))=((fun x:Nat×Nat=>((da (x.1:Int):Key),nV x.2)) (if x.1=k then(k,v)else x));by_cases h:x.1=k
  ·rw[if_pos ((yC _ _).mpr h),if_pos h,h]
  ·rw[if_neg (fun q=>h ((yC _ _).mp q)),if_neg h]
 ·rw[aF];rfl
theorem Yl(bx:Ma.NN)(k:Nat):(Ma.bump bx k).length<=bx.length+1:=by
 unfold Ma.bump Ma.putN;split
 ·rw[ae];omega
 ·rw[ai];simp
theorem Ap:∀(l:List Nat) (bx:Ma.NN),(l.foldl Ma.bump bx).length<=bx.length+l.length
 |[],_=>ao _
 |n::l,bx=>by
  have:=Ap l (Ma.bump bx n);have:=Yl bx n;rw[yl,az];omega
theorem ZX{ns:List Nat}{ms:List Int}(h:ms.Perm (ns.map fun n:Nat=>(n:Int))):∃ks:List Nat,ms=ks.map (fun n:Nat=>(n:Int))/\ks.Perm ns:=by
 refine⟨ms.map cz,?_,?_⟩
 ·rw[cO]
  symm
  conv=>rhs;rw[<-S0 ms]
  apply bU
  intro x hx;obtain⟨n,_,rfl⟩:=bh.mp (h.mem_iff.mp hx);rfl
 ·have:=h.map cz;rw[cO]at this;have e:(cz∘fun n:Nat=>(n:Int))=id:=by funext n;rfl
  rw[e,S0]at this;exact this
def zm(bx:Ma.NN):List Nat:=bx.flatMap fun x=>[x.1,x.2]
def Zj(K:aq):Sp:=fun vs H Q _=>E2 fun(a:Addr) (ns:List Nat)=>A4 (vs=[.ref a]) (bW K H a (ns.map nV)) (ns.length<=100000) (∀H' q ms,a7 H H'->H q=none->ms.Perm ns->ms.Pairwise (· <= ·)->H' q=some (.lst ((zm (Ma.il ms)).map nV))->Q (.ref q) H')
theorem Qs(a:Ma.NN)(x:Nat×Nat):zm (a++[x])=zm a++[x.1,x.2]:=by
 unfold zm;rw[gC];simp
theorem UL(a:Ma.NN):(zm a).length=2*a.length:=by
 induction a with
 |nil=>rfl
 |cons x a ih=>
  have e:zm (x::a)=[x.1,x.2]++zm a:=dE;rw[e,ai,ih];simp;omega
theorem GG(T:Txt K mg ad):cF P w K mg base iC 1 ad.Sl ad.Sy ["sorts"] (Zj K):=by
 refine T.oR.F.ok ua (by rintro _ _ _ _ ⟨a,ns,rfl,_⟩;rfl) (fun _ A _ s H vs Q E hr h=>?_)
 ·obtain⟨a,ns,rfl,hS,hl,k⟩:=h;have hu:=abr hr;refine⟨_,(aC (cf (i:=1) ua.nd rfl (be rfl) GA)
   (aC (jP ck rfl (hJ (bH Qx (by rfl) T.Lw qB (af (pv 0) ay))) (cv (i:=2) ua.nd rfl (be rfl))
   (aJ (Rz hu (pv 1) (pv 2) (gF qR (WJ hu (pv 1) (pv 2) aS ⟨rfl,rfl,rfl,rfl⟩) aS) rfl)))
   (aC (cf (i:=3) ua.nd rfl (be rfl) (fg ay))
   (aC (Ry (jP ck rfl (WI (pv 1)) (tI rfl (fR (cv (i:=2) ua.nd rfl (be rfl)) (fR (cv (i:=4) ua.nd rfl (be rfl)) oT)))
   (aJ (eu (lr a9 dH dG kZ (pv 3) (af (fg (af (pv 2) (af (pv 4) ay))) ay))))))
   (aJ (bj (pv 3))))))),?_⟩
  walk_at"";intro d hd;walk_at"";have hS1:bW K (upd H d (.dK [])) a ((ns.map fun n:Nat=>(n:Int)).map V.int):=by
   rw[cO];exact(aP _ hd).seq hS
  refine⟨a,_,rfl,hS1,fun ms' p afA Sd hp=>?_⟩;obtain⟨ms,rfl,hms⟩:=ZX afA;have Sd:ms.Pairwise (· <= ·):=by
   rw[ip]at Sd;exact Sd.imp fun h=>by omega
  have hlen:ms.length=ns.length:=hms.length_eq;refine⟨p,rfl,⟨_,bW.of ak⟩,?_⟩;have hp0:H p=none:=(aP _ hd).free hp;have hdp:d≠p:=aR (show upd H d (.dK []) d=some (.dK [])from ak) hp;refine qZ (xs:=ms.map nV) (fun i σ H'=>∃v2:Option V,σ=[some (.ref a),some (.ref d),v2,none,none]/\a7 H H'/\H' p=some (.lst (ms.map nV))/\H' d=some (.dK (dN ((ms.take i).foldl Ma.bump []))))
   ⟨none,rfl,(aP _ hd).trans (aP _ hp),?_,?_⟩ (fun i σ H' _ ⟨_,_,_,h,_⟩=>bW.of h) ?_ ?_
  ·rw[cO];exact ak
  ·exact bq hp ak
  ·rintro i x σ H' hx ⟨v2,rfl,s1,vU,Uz⟩;obtain⟨n,hn,rfl⟩:=get_map hx;walk_at"";refine⟨d,rfl,.inl ⟨_,.inl Uz⟩,?_⟩;walk_at"";refine⟨_,Vb.k (k:=da (n:Int)) Uz,?_⟩;have e1:(p9 (dN ((ms.take i).foldl Ma.bump [])) (da (n:Int))).getD (.int 0)=nV ((Ma.xl ((ms.take i).foldl Ma.bump []) n).getD 0):=by
    rw[adP];cases Ma.xl ((ms.take i).foldl Ma.bump []) n<;>rfl
   rw[e1];walk_at"";have NF:=Ap (ms.take i) [];refine⟨d,_,rfl,Ov.k (k:=da (n:Int)) Uz (zg ?_),?_⟩
   ·rw[dN,ae];rw[bt]at NF;simp at NF;omega
   ·have e2:V.int ((((Ma.xl ((ms.take i).foldl Ma.bump []) n).getD 0:Nat):Int)+1)=nV ((Ma.xl ((ms.take i).foldl Ma.bump []) n).getD 0+1):=by
     show V.int _=V.int _
     congr 1
    rw[e2,adQ];refine⟨_,rfl,a7.put hd s1,aX (bT hdp) vU,?_⟩;rw[take_snoc hn,om];exact ak
  ·rintro σ H1 ⟨v2,rfl,s1,vU,Uz⟩;rw[ae,bJ]at Uz;have Uz:H1 d=some (.dK (dN (Ma.il ms))):=Uz;walk_at"";refine⟨by decide,fun q hq=>?_⟩;have hdq:d≠q:=aR Uz hq;have OO:H q=none:=s1.free hq;have NF:(Ma.il ms).length<=100000:=by
    have:=Ap ms [];simp at this;have e:(Ma.il ms).length=(ms.foldl Ma.bump []).length:=rfl;omega
   refine Jv ?_;refine XJ (bq hq Uz) trivial fun od=>?_
   have hd2:upd (upd H1 q (.lst [])) d (.nu od (.dK (dN (Ma.il ms)))) d=some (.nu od (.dK (dN (Ma.il ms)))):=ak;have uH:upd (upd H1 q (.lst [])) d (.nu od (.dK (dN (Ma.il ms)))) q=some (.lst ([]:List V)):=aX (bT hdq) ak;have s2:a7 H (upd (upd H1 q (.lst [])) d (.nu od (.dK (dN (Ma.il ms))))):=a7.put hd (a7.put OO s1);generalize upd (upd H1 q (.lst [])) d (.nu od (.dK (dN (Ma.il ms))))=H2 at hd2 uH s2⊢;walk_at"";refine⟨d,od,_,rfl,hd2,?_⟩;refine UH (fun i σ H'=>∃v2 v4:Option V,σ=[some (.ref a),some (.ref d),v2,some (.ref q),v4]/\a7 H H'/\H' d=some (.nu od (.dK (dN (Ma.il ms))))/\H' q=some (.lst ((zm ((Ma.il ms).take i)).map nV)))
    ⟨_,_,rfl,s2,hd2,uH⟩ (fun i σ H' _ ⟨_,_,_,_,h,_⟩=>h) ?_ ?_
   ·rintro i kk vv σ H' tt hk ⟨v2',v4,rfl,s3,YV,vT⟩ hT;obtain⟨x,hx,e⟩:=get_map hk;obtain⟨rfl,rfl⟩:=bz e;refine zj (wa.of ak) rfl ?_;walk_at"";refine⟨.inl ⟨rfl,_,bW.of (bq hT vT)⟩,?_⟩;walk_at"";refine⟨by show 2<=sizeLine;decide,fun p1 zh=>?_⟩;walk_at"";refine Bp (bq zh (bq hT vT)) ak (YO ?_) ?_
    ·rw[ae,UL,bt];show 2*min i (Ma.il ms).length+2<=16777216;omega
    ·have ndq:d≠q:=hdq;refine⟨_,_,rfl,?_,aX ndq (bq zh (bq hT YV)),?_⟩
     ·intro b o e;exact aX (aR e OO) (bq zh (bq hT (s3 _ _ e)))
     ·rw[take_snoc hx,Qs,aF];exact ak
   ·rintro σ H3 ⟨v2',v4,rfl,s3,YV,vT⟩;refine⟨YV,?_⟩;walk_at"";have el:(dN (Ma.il ms)).length=(Ma.il ms).length:=ae _;rw[el,bJ]at vT;exact k _ q ms (a7.put hd s3) OO hms Sd (aX (bT hdq) vT)
def yN(H H1:Hp):Hp:=fun b=>match H b with
 |none=>H1 b
 |some _=>none
theorem qw(H H1:Hp):a7 (yN H H1) H1:=fun b o e=>by
 unfold yN at e;split at e
 ·exact e
 ·cases e
theorem oO{H H1:Hp}{b:Addr}{o:HO}(h:H b=none)(h1:H1 b=some o):yN H H1 b=some o:=by
 unfold yN;rw[h];exact h1
theorem FD{H H1:Hp}{b:Addr}(h:yN H H1 b≠none):H b=none:=by
 unfold yN at h;split at h
 ·assumption
 ·exact absurd rfl h
theorem TF{a b c n:Int}(hs:fB a b c=n)(ha:0<=a)(ha':a<1000000)(hb:0<=b)(hb':b<1000000)(hc:c>0)(Sg:c<1000000)(hn:0<=n)(hn':n<1000000):vo a b c=true:=by
 unfold vo;rw[hs];simp only[Builtin.Range.rangeFitsLong,aE,HS,decide_eq_true_eq,beq_iff_eq,hc,if_true];omega
theorem rg3{n:Nat}(hn:n<=1000):RgC 0 ((3*n:Nat):Int) 3 n:=by
 have e:fB 0 ((3*n:Nat):Int) 3=(n:Int):=by
  unfold fB;rw[if_pos (by decide)];split<;>omega
 exact⟨by decide,by decide,TF e (by decide) (by decide) (by omega) (by omega) (by decide) (by decide) (by omega) (by omega),e⟩
def Mq(K:aq)(ad:Ad):Sp:=fun vs H Q _=>E2 fun(a:Addr) (l:List Int)=>A5 (vs=[.ref a]) (bW K H a (l.map V.int)) (iU l=true) (l.length<=192) (∀H' q,a7 H H'->H q=none->lY ad (yN H H') q (yK l)->Q (.ref q) H')
theorem Ia(T:Txt K mg ad):cF P w K mg base iC 3 ad.Bx ad.BE ["row"] (Mq K ad):=by
 refine T.p8.F.ok tF (by rintro _ _ _ _ ⟨a,l,rfl,_⟩;rfl) (fun _ A _ s H vs Q E hr h=>?_)
 ·obtain⟨a,l,rfl,hS,xu,hlen,k⟩:=h;have hn:=Ma.pq xu;generalize hnn:(yK l).length=n at hn;have Xn:=xu;rw[Ma.sA n l hn]at Xn;rw[aE,aE]at Xn;refine⟨_,(aJ (bj (si rfl tF.nd (I0 rfl T.De (af aS (af (bH bg (by rfl) T.jx aV (af (pv 0) ay)) (af aS ay)))) (gZ (N:=["row","k"]) (sc:=aL uX) (own:=[("k",1)]) (by decide+kernel)) (fun _ _ _ _ _=>(cv (i:=1) tF.nd rfl (be rfl) (jh rfl))) (fun _ _ _ _ _=>jO) (fun _ _ _ _ _=>(lT T.wj.m (KI T) hr.mono rfl T.ZY T.wj.b .nil bp (af (eB (r:=MQ K) cj (pv 0) (pv 1) (fun _ _=>rfl)) (af (eB (r:=MQ K) cj (pv 0) (gF qR (pv 1) aS) (fun _ _=>rfl)) (af (eB (r:=MQ K) cj (pv 0) (gF qR (pv 1) aS) (fun _ _=>rfl)) ay)))))))),?_⟩;walk_at"";refine⟨a,_,rfl,.inl hS,?_⟩;rw[ae,hn];walk_at"";refine⟨_,_,_,n,rfl,rg3 (by omega),fun D hD=>?_⟩;refine Uo (fun i H'=>∃as:List Addr,as.length=i/\a7 H H'/\H' D=some (.lst (as.map V.ref))/\∀(j:Nat) (x:Addr) (kd:iI),as[j]? =some x->(yK l)[j]? =some kd->Ys ad H' x kd/\H x=none)
   ⟨[],rfl,aP _ hD,ak,fun j x kd hj=>by simp at hj⟩ ?_ ?_
  ·rintro i H' hi ⟨as,hl,s1,mB,Jt⟩;have ei:(0:Int)+((i:Nat):Int)*3=((3*i:Nat):Int):=by omega
   rw[ei];walk_at"";refine⟨rfl,?_⟩;walk_at"";refine oH ?_;walk_at"";refine eO (s1.seq hS) (ad0 (by omega) (by omega)) ?_;walk_at"";refine eO (s1.seq hS) (ad0 (by omega) (by omega)) ?_;walk_at"";refine eO (s1.seq hS) (ad0 (by omega) (by omega)) ?_;walk_at"";intro x dx hx hdx j1;refine⟨x,dx,_,_,_,rfl,ak,fun H1 h1 b1=>⟨rfl,?_⟩⟩;have s2:a7 H' H1:=a7.made hx hdx b1;have e0:(((3*i:Nat):Int)).toNat=3*i:=by omega
   have e1:(((3*i:Nat):Int)+1).toNat=3*i+1:=by omega
   have e2:(((3*i:Nat):Int)+2).toNat=3*i+2:=by omega
   rw[e0,e1,e2]at h1;have mem:∀j,l.getD (3*i+j) 0∈Ma.yO l j n:=fun j=>bh.mpr ⟨i,bG.mpr hi,rfl⟩
   have m0:=Ma.gj.mp (bD.mp Xn.1 _ (mem 0));have m1:=Ma.gj.mp (bD.mp Xn.2.1 _ (mem 1));have m2:=Ma.gj.mp (bD.mp Xn.2.2 _ (mem 2));rw[rP]at m0;refine⟨_,s2 _ _ mB,zg (by rw[ae];omega),as++[x],by rw[ai,hl];rfl,a7.put hD (s1.trans s2),?_,?_⟩
   ·rw[aF];exact ak
   ·intro j y kd hj hk;have nD:∀ {z:Addr} {dz:Addr} {fs:List (Str×V)},H1 z=some (.ins ad.rD dz fs)->z≠D:=fun h=>uj h (s2 _ _ mB) (by intro q;cases q)
    by_cases hjs:j<as.length
    ·rw[cG hjs]at hj;obtain⟨⟨dz,hz⟩,hn⟩:=Jt j y kd hj hk;exact⟨⟨dz,aX (nD (s2 _ _ hz)) (s2 _ _ hz)⟩,hn⟩
    ·have ej:j=as.length:=by
      have:=(aw.mp hj).1;rw[ai]at this;simp at this;omega
     subst ej;rw[bY (ao _),hG]at hj;have ex:x=y:=ax hj;subst ex;rw[hl,Ma.sy l n i hn hi]at hk;have ek:=ax hk;refine⟨⟨dx,aX (nD h1) ?_⟩,s1.free hx⟩;rw[<-ek];have f0:(((l.getD (3*i) 0).toNat:Nat):Int)=l.getD (3*i) 0:=by omega
     have f1:(((l.getD (3*i+1) 0).toNat:Nat):Int)=l.getD (3*i+1) 0:=by omega
     have f2:(((l.getD (3*i+2) 0).toNat:Nat):Int)=l.getD (3*i+2) 0:=by omega
     show H1 x=some (.ins ad.rD dx (soF (((l.getD (3*i) 0).toNat:Nat):Int) (((l.getD (3*i+1) 0).toNat:Nat):Int) (((l.getD (3*i+2) 0).toNat:Nat):Int)));rw[f0,f1,f2];exact h1
  ·rintro H' ⟨as,hl,s1,mB,Jt⟩;exact k H' D s1 hD ⟨as,oO hD mB,by rw[hl,hnn],fun j x kd h1 h2=>let ⟨⟨d,e⟩,n⟩:=Jt j x kd h1 h2;⟨d,oO n e⟩⟩
inductive Role where
 |dr|seats|places|picks|sorts|dn (i:Nat)|row (i:Nat)|pool (i:Nat)|first (i:Nat)|last (i:Nat)|pack (o:Nat)
 deriving DecidableEq
structure DM where
 n:Nat
 recipe:List Nat
 takes:Nat
 rounds:Nat
 kinds:List iI
 sheets:List (List Nat)
 places:List Nat
 round:Nat
 picks:NL
 sorts:List Nat
 queues:Nat->List bA
 pools:Nat->List Nat
 first:Nat->NL
 last:Nat->NL
 pk:Nat->Option bA
structure Gh where
 to:Role->Addr
 z:Hp
instance:CoeFun Gh (fun _=>Role->Addr):=⟨Gh.to⟩
def iG(m:DM):Role->Prop
 |.dn i=>i<m.n
 |.row i=>i<m.n
 |.pool i=>i<m.n
 |.first i=>i<m.n
 |.last i=>i<m.n
 |.pack o=>(m.pk o).isSome=true
 |_=>True
def suF(m:DM)(ra ka sa:Addr):List (Str×V):=[("how_many_seats",nV m.n),("recipe",.ref ra),("at_a_time",nV m.takes),("rounds",nV m.rounds),("sorts",.ref ka),("sheets",.ref sa)]
def lb(ad:Ad)(Z:Hp)(su:Addr)(m:DM):Prop:=E5 fun dx ra ka sa ss=>A4 (Z su=some (.ins ad.jT dx (suF m ra ka sa))) (Z ra=some (.lst (m.recipe.map nV))) (lY ad Z ka m.kinds) (fW Z sa ss m.sheets)
theorem fW.same{H H':Hp}{q:Addr}{ss:List Addr}{ls:List (List Nat)}(h:fW H q ss ls)(s:a7 H H'):fW H' q ss ls:=⟨s _ _ h.lst,h.nd,h.len,fun j a l h1 h2=>s _ _ (h.item j a l h1 h2)⟩
theorem lb.same{ad:Ad}{H H':Hp}{su:Addr}{m:DM}(h:lb ad H su m)(s:a7 H H'):lb ad H' su m:=by
 obtain⟨dx,ra,ka,sa,ss,h1,h2,h3,h4⟩:=h;exact⟨dx,ra,ka,sa,ss,s _ _ h1,s _ _ h2,h3.same s,h4.same s⟩
def PickAt(Z:Hp)(a:Addr)(p:Nat×List Nat):Prop:=∃b,Z a=some (.tup [.int (p.1:Int),.ref b])/\Z b=some (.lst (p.2.map nV))
def kj(Z:Hp)(as:List Addr)(l:NL):Prop:=Paired (PickAt Z) as l
def QN(Z:Hp)(x:Nat×List Nat)(kv:Key×V):Prop:=kv.1=da (x.1:Int)/\∃a,kv.2=.ref a/\Z a=some (.lst (x.2.map nV))
def gm(Z:Hp)(l:NL)(bx:List (Key×V)):Prop:=Paired (QN Z) l bx
theorem kj.same{H H':Hp}{as:List Addr}{l:NL}(h:kj H as l)(s:a7 H H'):kj H' as l:=Paired.Xa h fun _ _ ⟨b,h1,h2⟩=>⟨b,s _ _ h1,s _ _ h2⟩
theorem gm.same{H H':Hp}{l:NL}{bx:List (Key×V)}(h:gm H l bx)(s:a7 H H'):gm H' l bx:=Paired.Xa h fun _ _ ⟨e,b,h1,h2⟩=>⟨e,b,h1,s _ _ h2⟩
def YZ(g:Gh)(su:Addr)(m:DM):List (Str×V):=[("setup",.ref su),("seats",.ref (g .seats)),("sheet_places",.ref (g .places)),("round_number",nV m.round),("picks",.ref (g .picks)),("card_sorts",.ref (g .sorts))]
def seF(g:Gh)(i:Nat):List (Str×V):=[("row",.ref (g (.row i))),("pool",.ref (g (.pool i))),("first_looks",.ref (g (.first i))),("last_looks",.ref (g (.last i)))]
def PL(k:Nat)(p:bA)(c:Addr):List (Str×V):=[("number",nV k),("origin",nV p.origin),("cards",.ref c),("passed",nV p.visits)]
def numOf(m:DM)(o:Nat):Nat:=m.round*m.n+o
def yV(ad:Ad)(g:Gh)(m:DM):Role->HO->Prop
 |.dr,o=>∃dx su,o=.ins ad.dC dx (YZ g su m)/\lb ad g.z su m
 |.seats,o=>o=.lst ((aG m.n).map fun i=>.ref (g (.dn i)))
 |.places,o=>o=.lst (m.places.map nV)
 |.picks,o=>∃as,o=.lst (as.map V.ref)/\kj g.z as m.picks
 |.sorts,o=>o=.lst (m.sorts.map nV)
 |.dn i,o=>∃dx,o=.ins ad.jf dx (seF g i)
 |.row i,o=>o=.lst ((m.queues i).map fun p=>.ref (g (.pack p.origin)))
 |.pool i,o=>o=.lst ((m.pools i).map nV)
 |.first i,o=>∃bx,o=.dK bx/\gm g.z (m.first i) bx
 |.last i,o=>∃bx,o=.dK bx/\gm g.z (m.last i) bx
 |.pack o',o=>∃p dx c,m.pk o'=some p/\o=.ins ad.jU dx (PL (numOf m o') p c)/\g.z c=some (.lst (p.cards.map nV))
def Out(g:Gh)(m:DM)(b:Addr):Prop:=∀r,iG m r->g r≠b
structure Rep(ad:Ad)(g:Gh)(m:DM)(H:Hp):Prop where
 inj:∀r r',iG m r->iG m r'->g r=g r'->r=r'
 at_:∀r,iG m r->∃o,H (g r)=some o/\yV ad g m r o
 zs:a7 g.z H
 zo:∀b o,g.z b=some o->Out g m b
theorem Rep.set{ad:Ad}{g:Gh}{m m':DM}{H:Hp}(R:Rep ad g m H)(r0:Role)(o:HO)(h0:iG m r0)(c0:yV ad g m' r0 o)(hl:∀r,iG m' r->iG m r)(hc:∀r,r≠r0->iG m' r->∀u,yV ad g m r u->yV ad g m' r u):Rep ad g m' (upd H (g r0) o):=by
 refine⟨fun r r' h h'=>R.inj r r' (hl r h) (hl r' h'),fun r h=>?_,fun b u e=>aX (fun q=>R.zo b u e r0 h0 q.symm) (R.zs b u e),fun b u e r h=>R.zo b u e r (hl r h)⟩;by_cases e:r=r0
 ·subst e;exact⟨o,ak,c0⟩
 ·obtain⟨u,h1,h2⟩:=R.at_ r (hl r h);exact⟨u,aX (fun q=>e (R.inj r r0 (hl r h) h0 q)) h1,hc r e h u h2⟩
theorem Rep.keep{ad:Ad}{g:Gh}{m:DM}{H H':Hp}(R:Rep ad g m H)(k:∀r,iG m r->∀o,H (g r)=some o->H' (g r)=some o)(kz:∀b o,g.z b=some o->H b=some o->H' b=some o):Rep ad g m H':=
 ⟨R.inj,fun r h=>let ⟨o,h1,h2⟩:=R.at_ r h;⟨o,k r h o h1,h2⟩,fun b o e=>kz b o e (R.zs b o e),R.zo⟩
theorem Rep.same{ad:Ad}{g:Gh}{m:DM}{H H':Hp}(R:Rep ad g m H)(s:a7 H H'):Rep ad g m H':=R.keep (fun _ _ _ e=>s _ _ e) fun _ _ _ e=>s _ _ e
theorem Rep.out{ad:Ad}{g:Gh}{m:DM}{H:Hp}(R:Rep ad g m H){q:Addr}(h:H q=none):Out g m q:=by
 intro r hr e;obtain⟨o,h1,_⟩:=R.at_ r hr;rw[e,h]at h1;cases h1
theorem Rep.zn{ad:Ad}{g:Gh}{m:DM}{H:Hp}(R:Rep ad g m H){q:Addr}(h:H q=none):g.z q=none:=by
 cases e:g.z q with
 |none=>rfl
 |some o=>rw[R.zs q o e]at h;cases h
def adj(g:Gh)(r:Role)(a:Addr):Gh:={g with to:=fun r'=>if r'=r then a else g r'}
theorem UC(g:Gh)(r:Role)(a:Addr):adj g r a r=a:=if_pos rfl
theorem aan{g:Gh}{r r':Role}{a:Addr}(h:r'≠r):adj g r a r'=g r':=if_neg h
def kr(g:Gh)(a:Addr)(o:HO):Gh:={g with z:=upd g.z a o}
theorem yV.zs{ad:Ad}{g g':Gh}{m:DM}(e:g'.to=g.to)(s:a7 g.z g'.z):∀ {r:Role} {o:HO},yV ad g m r o->yV ad g' m r o:=by
 obtain⟨t,z⟩:=g;obtain⟨t',z'⟩:=g';cases (show t'=t from e);intro r o c;cases r with
 |dr=>obtain⟨dx,su,h1,h2⟩:=c;exact⟨dx,su,h1,h2.same s⟩
 |picks=>obtain⟨as,h1,h2⟩:=c;exact⟨as,h1,h2.same s⟩
 |first i=>obtain⟨bx,h1,h2⟩:=c;exact⟨bx,h1,h2.same s⟩
 |last i=>obtain⟨bx,h1,h2⟩:=c;exact⟨bx,h1,h2.same s⟩
 |pack o'=>obtain⟨p,dx,a,h1,h2,h3⟩:=c;exact⟨p,dx,a,h1,h2,s _ _ h3⟩
 |_=>exact c
theorem Rep.freeze{ad:Ad}{g:Gh}{m:DM}{H:Hp}(R:Rep ad g m H){a:Addr}{o:HO}(ha:H a=some o)(oa:Out g m a):a7 g.z (kr g a o).z/\Rep ad (kr g a o) m H:=by
 have s:a7 g.z (kr g a o).z:=fun b u e=>by
  by_cases q:b=a
  ·rw[q]at e⊢;have:=R.zs _ _ e;rw[ha]at this;cases this;exact ak
  ·exact aX q e
 refine⟨s,R.inj,fun r h=>?_,fun b u e=>?_,fun b u e=>?_⟩
 ·obtain⟨u,h1,h2⟩:=R.at_ r h;exact⟨u,h1,yV.zs (g:=g) (g':=kr g a o) rfl s h2⟩
 ·by_cases q:b=a
  ·rw[q]at e⊢;rw[show(kr g a o).z a=some o from ak]at e;cases e;exact ha
  ·rw[show(kr g a o).z b=g.z b from cq q]at e;exact R.zs b u e
 ·by_cases q:b=a
  ·rw[q];exact oa
  ·rw[show(kr g a o).z b=g.z b from cq q]at e;exact R.zo b u e
theorem AG(g:Gh)(a:Addr)(o:HO):(kr g a o).z a=some o:=ak
structure Fr(g:Gh)(m:DM)(H:Hp)(g':Gh)(m':DM)(H':Hp):Prop where
 out:∀b o,H b=some o->Out g m b->H' b=some o
 new:∀r,iG m' r->(iG m r/\g' r=g r)\/H (g' r)=none\/∃r0,iG m r0/\g' r=g r0
 mono:∀b,H' b=none->H b=none
 zs:a7 g.z g'.z
 zn:∀b,g'.z b≠none->g.z b≠none\/H b=none
theorem Fr.outs{g g':Gh}{m m':DM}{H H':Hp}(f:Fr g m H g' m' H'){b:Addr}{o:HO}(hb:H b=some o)(h:Out g m b):Out g' m' b:=by
 intro r hr e;rcases f.new r hr with ⟨h1,h2⟩|h2|⟨r0,h1,h2⟩
 ·exact h r h1 (h2▸e)
 ·rw[e,hb]at h2;cases h2
 ·exact h r0 h1 (h2▸e)
theorem Fr.refl(g:Gh)(m:DM)(H:Hp):Fr g m H g m H:=⟨fun _ _ e _=>e,fun r h=>.inl ⟨h,rfl⟩,fun _ e=>e,a7.refl _,fun _ h=>.inl h⟩
theorem Fr.trans{g g1 g2:Gh}{m m1 m2:DM}{H H1 H2:Hp}(a:Fr g m H g1 m1 H1)(b:Fr g1 m1 H1 g2 m2 H2):Fr g m H g2 m2 H2:=by
 refine⟨fun c o e h=>b.out c o (a.out c o e h) (a.outs e h),fun r hr=>?_,fun c e=>a.mono c (b.mono c e),a.zs.trans b.zs,fun c h=>?_⟩
 ·have back:∀r1,iG m1 r1->g2 r=g1 r1->(iG m r/\g2 r=g r)\/H (g2 r)=none\/∃r0,iG m r0/\g2 r=g r0:=by
   intro r1 h1 e;rcases a.new r1 h1 with ⟨h3,h4⟩|h4|⟨r0,h3,h4⟩
   ·exact .inr (.inr ⟨r1,h3,e.trans h4⟩)
   ·exact .inr (.inl (by rw[e];exact h4))
   ·exact .inr (.inr ⟨r0,h3,e.trans h4⟩)
  rcases b.new r hr with ⟨h1,h2⟩|h2|⟨r0,h1,h2⟩
  ·exact back r h1 h2
  ·exact .inr (.inl (a.mono _ h2))
  ·exact back r0 h1 h2
 ·rcases b.zn c h with h|h
  ·exact a.zn c h
  ·exact .inr (a.mono c h)
theorem Fr.set{ad:Ad}{g:Gh}{m m':DM}{H:Hp}(r0:Role)(o:HO)(h0:iG m r0)(hl:∀r,iG m' r->iG m r):Fr g m H g m' (upd H (g r0) o):=by
 refine⟨fun b u e h=>aX (fun q=>h r0 h0 q.symm) e,fun r hr=>.inl ⟨hl r hr,rfl⟩,fun b e=>?_,a7.refl _,fun _ h=>.inl h⟩;by_cases q:b=g r0
 ·rw[q,ak]at e;cases e
 ·rw[cq q]at e;exact e
theorem Fr.same{g:Gh}{m:DM}{H H':Hp}(s:a7 H H'):Fr g m H g m H':=⟨fun b o e _=>s b o e,fun r h=>.inl ⟨h,rfl⟩,fun b e=>s.free e,a7.refl _,fun _ h=>.inl h⟩
theorem Rep.gk{ad:Ad}{g:Gh}{m:DM}{H:Hp}(R:Rep ad g m H):∃dx su,H (g .dr)=some (.ins ad.dC dx (YZ g su m))/\lb ad g.z su m:=by
 obtain⟨o,h,dx,su,rfl,hs⟩:=R.at_ .dr trivial;exact⟨dx,su,h,hs⟩
theorem Rep.lst{ad:Ad}{g:Gh}{m:DM}{H:Hp}(R:Rep ad g m H){r:Role}{xs:List V}(hl:iG m r)(e:∀o,yV ad g m r o->o=.lst xs):H (g r)=some (.lst xs):=by
 obtain⟨o,h,c⟩:=R.at_ r hl;rw[h,e o c]
theorem Rep.dn{ad:Ad}{g:Gh}{m:DM}{H:Hp}(R:Rep ad g m H){i:Nat}(hi:i<m.n):∃dx,H (g (.dn i))=some (.ins ad.jf dx (seF g i)):=by
 obtain⟨o,h,dx,rfl⟩:=R.at_ (.dn i) hi;exact⟨dx,h⟩
theorem Rep.row{ad:Ad}{g:Gh}{m:DM}{H:Hp}(R:Rep ad g m H){i:Nat}(hi:i<m.n):H (g (.row i))=some (.lst ((m.queues i).map fun p=>.ref (g (.pack p.origin)))):=R.lst (r:=.row i) hi fun _ e=>e
theorem Rep.pool{ad:Ad}{g:Gh}{m:DM}{H:Hp}(R:Rep ad g m H){i:Nat}(hi:i<m.n):H (g (.pool i))=some (.lst ((m.pools i).map nV)):=R.lst (r:=.pool i) hi fun _ e=>e
theorem Rep.pack{ad:Ad}{g:Gh}{m:DM}{H:Hp}(R:Rep ad g m H){o:Nat}{p:bA}(hp:m.pk o=some p):∃dx c,H (g (.pack o))=some (.ins ad.jU dx (PL (numOf m o) p c))/\H c=some (.lst (p.cards.map nV))/\g.z c=some (.lst (p.cards.map nV)):=by
 obtain⟨u,h,p',dx,c,e,rfl,hc⟩:=R.at_ (.pack o) (by show(m.pk o).isSome=true;rw[hp];rfl);rw[hp]at e;cases e;exact⟨dx,c,h,R.zs _ _ hc,hc⟩
theorem Rep.first{ad:Ad}{g:Gh}{m:DM}{H:Hp}(R:Rep ad g m H){i:Nat}(hi:i<m.n):∃bx,H (g (.first i))=some (.dK bx)/\gm g.z (m.first i) bx:=by
 obtain⟨o,h,bx,rfl,s⟩:=R.at_ (.first i) hi;exact⟨bx,h,s⟩
theorem Rep.last{ad:Ad}{g:Gh}{m:DM}{H:Hp}(R:Rep ad g m H){i:Nat}(hi:i<m.n):∃bx,H (g (.last i))=some (.dK bx)/\gm g.z (m.last i) bx:=by
 obtain⟨o,h,bx,rfl,s⟩:=R.at_ (.last i) hi;exact⟨bx,h,s⟩
theorem Rep.picks{ad:Ad}{g:Gh}{m:DM}{H:Hp}(R:Rep ad g m H):∃as,H (g .picks)=some (.lst (as.map V.ref))/\kj g.z as m.picks:=by
 obtain⟨o,h,as,rfl,s⟩:=R.at_ .picks trivial;exact⟨as,h,s⟩
theorem Rep.setup{ad:Ad}{g:Gh}{m:DM}{H:Hp}(R:Rep ad g m H):∃dx su ds ra ka sa ss,H (g .dr)=some (.ins ad.dC dx (YZ g su m))/\H su=some (.ins ad.jT ds (suF m ra ka sa))/\H ra=some (.lst (m.recipe.map nV))/\lY ad H ka m.kinds/\fW H sa ss m.sheets/\fW g.z sa ss m.sheets/\lb ad g.z su m:=by
 obtain⟨dx,su,h1,hs⟩:=R.gk;obtain⟨ds,ra,ka,sa,ss,h2,h3,h4,h5⟩:=id hs;exact⟨dx,su,ds,ra,ka,sa,ss,h1,R.zs _ _ h2,R.zs _ _ h3,h4.same R.zs,h5.same R.zs,h5,hs⟩
theorem uC{n k:Nat}{f:Nat->V}(h:k<n):JL ((aG n).map f) (k:Int)=some (f k):=by
 refine ya (by omega) ?_;rw[bB,cI,l4 h];rfl
theorem Lx{l:List Nat}{k:Nat}(h:k<l.length):JL (l.map nV) (k:Int)=some (nV (l.getD k 0)):=by
 have:=Yp (l:=l) (i:=(k:Int)) (by omega) (by rw[bB];exact h);rw[bB]at this;exact this
def V6(ad:Ad):Sp:=fun vs H Q _=>E2 fun(g:Gh) (m:DM)=>A3 (vs=[.ref (g .dr)]) (Rep ad g m H) (Q (.bl (decide (m.round=m.rounds))) H)
theorem oF(T:Txt K mg ad):cF P w K mg base iC 1 ad.vH ad.vL ["self"] (V6 ad):=by
 refine T.ia.F.ok Cq (by rintro _ _ _ _ ⟨g,m,rfl,_⟩;rfl) (fun _ A _ s H vs Q E hr h=>?_)
 ·obtain⟨g,m,rfl,R,k⟩:=h;obtain⟨dx,su,du,ra,ka,sa,ss,hd,hu,_⟩:=R.setup;refine⟨_,(aJ (bj (yy vC (aQ (pv 0) rfl) (aQ (aQ (pv 0) rfl) rfl) (fP _)))),?_⟩;walk_at"";refine⟨_,_,dx,_,_,rfl,hd,T.a6,T.eU,rfl,?_⟩;walk_at"";refine⟨_,_,dx,_,_,rfl,hd,T.a6,T.f9,rfl,?_⟩;walk_at"";refine⟨_,_,du,_,_,rfl,hu,T.iP,T.xg,rfl,?_⟩;walk_at"";have e:decide ((m.round:Int)=(m.rounds:Int))=decide (m.round=m.rounds):=decide_eq_decide.mpr (by omega);rw[e];exact k
def Mm(m:DM)(k:Nat):DM:={m with places:=m.places.set k ((m.places.getD k 0+1) %(m.sheets.getD k []).length)}
def Ph(ad:Ad):Sp:=fun vs H Q _=>E3 fun(g:Gh) (m:DM) (k:Nat)=>A6 (vs=[.ref (g .dr),.int (k:Int)]) (Rep ad g m H) (k<m.sheets.length) (k<m.places.length) (m.places.getD k 0<(m.sheets.getD k []).length) (∀H',Rep ad g (Mm m k) H'->Fr g m H g (Mm m k) H'->Q (nV ((m.sheets.getD k []).getD (m.places.getD k 0) 0)) H')
theorem z8(T:Txt K mg ad):cF P w K mg base iC 1 ad.sI ad.sR ["self","class_number"] (Ph ad):=by
 refine T.mR.F.ok me (by rintro _ _ _ _ ⟨g,m,k,rfl,_⟩;rfl) (fun _ A _ s H vs Q E hr h=>?_)
 ·obtain⟨g,m,k,rfl,R,hk,hkp,lM,kk⟩:=h;obtain⟨dx,su,du,ra,ka,sa,ss,hd,hu,_,_,L,Lz,_⟩:=R.setup;obtain⟨sk,hsk⟩:∃sk,ss[k]? =some sk:=⟨_,aB (by rw[L.len];exact hk)⟩;have hs:H sk=some (.lst ((m.sheets.getD k []).map nV)):=L.item k sk _ hsk (by rw[aB hk,aW,aB hk];rfl);have hgk:m.sheets[k]? =some (m.sheets.getD k []):=by rw[aB hk,Ma.getD_in hk]
  have hsz:sk≠g .places:=fun q=>R.zo _ _ (Lz.item k sk _ hsk hgk) .places trivial q.symm
  have tQ:H (g .places)=_:=R.lst (r:=.places) trivial fun _ e=>e
  refine⟨_,(aC (cf (i:=2) me.nd rfl (be rfl) (eB cj (aQ (aQ (pv 0) rfl) rfl) (pv 1) (fun _ _=>rfl)))
   (aC (cf (i:=3) me.nd rfl (be rfl) (eB cj (aQ (pv 0) rfl) (pv 1) (fun _ _=>rfl)))
   (aC (PF (gF zZ (gF qR (pv 3) aS) (bH bg (by rfl) T.jx aV (af (pv 2) ay))) (PJ (aQ (pv 0) rfl) (pv 1) set_list))
   (aJ (bj (eB cj (pv 2) (pv 3) (fun _ _=>rfl))))))),?_⟩
  walk_at"";refine⟨_,_,dx,_,_,rfl,hd,T.a6,T.f9,rfl,?_⟩;walk_at"";refine⟨_,_,du,_,_,rfl,hu,T.iP,T.nh,rfl,?_⟩;walk_at"";refine eO (bW.of L.lst) (ya (v:=.ref sk) (by omega) (by rw[bB,cI,hsk];rfl)) ?_;walk_at"";refine⟨_,_,dx,_,_,rfl,hd,T.a6,T.kI,rfl,?_⟩;walk_at"";refine eO (bW.of tQ) (Lx hkp) ?_;walk_at"";refine⟨_,_,rfl,.inl (bW.of hs),?_⟩;walk_at"";rw[ae];refine EH (by show(0:Int)<_;omega) ?_;walk_at"";refine⟨_,_,dx,_,_,rfl,hd,T.a6,T.kI,rfl,?_⟩;walk_at"";refine Qo tQ (RW (by omega) (by rw[ae];omega)) ?_;have e1:V.int (((m.places.getD k 0:Nat):Int)+1)=nV (m.places.getD k 0+1):=by show V.int _=V.int _;congr 1
  have e2:((m.places.getD k 0:Nat):Int)+1=((m.places.getD k 0+1:Nat):Int):=by omega
  have e3:V.int ((((m.places.getD k 0:Nat):Int)+1) %(((m.sheets.getD k []).length:Nat):Int))=nV ((m.places.getD k 0+1) %(m.sheets.getD k []).length):=by
   rw[e2,<-v9]
  rw[e3,bB,Pp];walk_at"";refine eO (bW.of (aX hsz hs)) (Lx lM) ?_;refine kk _ ?_ (Fr.set (ad:=ad) .places _ trivial fun r h=>by cases r<;>exact h);refine R.set (m':=Mm m k) .places _ trivial rfl (fun r h=>by cases r<;>exact h) fun r hr hl u hu=>?_
  cases r<;>first|exact hu|exact absurd rfl hr
def pQ(m:DM)(k j:Nat):DM:={m with places:=m.places.set k ((m.places.getD k 0+j) %(m.sheets.getD k []).length),sorts:=m.sorts++bR (m.sheets.getD k []) (m.places.getD k 0) j}
structure Ready(m:DM):Prop where
 s4:m.sheets.length=4
 p4:m.places.length=4
 r4:m.recipe.length=4
 ne:∀k,k<4->m.recipe.getD k 0≠0->0<(m.sheets.getD k []).length
 pl:∀k,k<4->m.places.getD k 0 %(m.sheets.getD k []).length=m.places.getD k 0
def cP(m:DM)(n:Nat):DM:=(aG n).foldl (fun m k=>pQ m k (m.recipe.getD k 0)) m
theorem fS(m:DM)(n:Nat):cP m (n+1)=pQ (cP m n) n ((cP m n).recipe.getD n 0):=Ma.gJ _ _ _
theorem Ic(s:List Nat)(o n:Nat):bR s o (n+1)=bR s o n++[s.getD ((o+n) %s.length) 0]:=by
 unfold bR;rw[dj,aF];rfl
theorem u6(s:List Nat)(o n:Nat):(bR s o n).length=n:=by simp[bR]
theorem Hy{m:DM}(h:Ready m){k:Nat}(hk:k<4):pQ m k 0=m:=by
 unfold pQ;have e1:m.places.set k ((m.places.getD k 0+0) %(m.sheets.getD k []).length)=m.places:=by
  rw[rP,h.pl k hk];have hkp:k<m.places.length:=by rw[h.p4];exact hk
  rw[Ma.getD_in hkp];exact List.set_getElem_self hkp
 have e2:m.sorts++bR (m.sheets.getD k []) (m.places.getD k 0) 0=m.sorts:=by simp[bR]
 rw[e1,e2]
theorem Yr{m:DM}{k j:Nat}(hp:k<m.places.length):Mm {pQ m k j with sorts:=(pQ m k j).sorts++[(m.sheets.getD k []).getD ((m.places.getD k 0+j) %(m.sheets.getD k []).length) 0]} k=pQ m k (j+1):=by
 unfold Mm pQ;dsimp only;rw[Ma.cy hp,List.set_set,Ic,dF,Iu,B0]
theorem yJ{m:DM}{k j:Nat}(hp:k<m.places.length):(pQ m k j).places.getD k 0=(m.places.getD k 0+j) %(m.sheets.getD k []).length:=Ma.cy hp
theorem U4{m:DM}(h:Ready m)(k j:Nat):Ready (pQ m k j):=by
 refine⟨h.s4,?_,h.r4,h.ne,fun i hi=>?_⟩
 ·show(m.places.set k _).length=4;rw[dD];exact h.p4
 ·show(m.places.set k _).getD i 0 %(m.sheets.getD i []).length=(m.places.set k _).getD i 0;by_cases e:k=i
  ·subst e;rw[Ma.cy (by rw[h.p4];exact hi),Nat.mod_mod]
  ·rw[Ma.cw e];exact h.pl i hi
theorem Ae{m:DM}(h:Ready m):∀n,Ready (cP m n)
 |0=>h
 |n+1=>by rw[fS];exact U4 (Ae h n) _ _
theorem mx(m:DM):∀n,(cP m n).recipe=m.recipe
 |0=>rfl
 |n+1=>by rw[fS];exact mx m n
theorem ng(m:DM):∀n,(cP m n).sorts.length=m.sorts.length+((aG n).map fun k=>m.recipe.getD k 0).sum
 |0=>by simp[cP]
 |n+1=>by
  rw[fS];show((cP m n).sorts++bR _ _ _).length=_;rw[ai,u6,mx,ng m n,dj,aF,yk];simp;omega
def cH(a b:Nat):List Nat:=(aG (b-a)).map fun j=>a+j+1
theorem Hr{a b:Nat}(h:a<=b):cH a (b+1)=cH a b++[b+1]:=by
 unfold cH;rw[show b+1-a=(b-a)+1 by omega,dj,aF];show _++[a+(b-a)+1]=_;rw[show a+(b-a)+1=b+1 by omega]
def Pj(ad:Ad):Sp:=fun vs H Q _=>E2 fun(g:Gh) (m:DM)=>A6 (vs=[.ref (g .dr)]) (Rep ad g m H) (Ready m) (m.sorts.length<=10000) (∀k,k<4->m.recipe.getD k 0<=15) (∀H' q,Rep ad g (cP m 4) H'->Fr g m H g (cP m 4) H'->H q=none->H' q=some (.lst ((cH m.sorts.length (cP m 4).sorts.length).map nV))->Q (.ref q) H')
theorem GY(m:DM)(k j:Nat)(r:Role):iG (pQ m k j) r=iG m r:=by cases r<;>rfl
theorem CV(m:DM):∀(n:Nat) (r:Role),iG (cP m n) r=iG m r
 |0,_=>rfl
 |n+1,r=>by rw[fS,GY,CV m n r]
theorem z9(T:Txt K mg ad):cF P w K mg base iC 2 ad.sJ ad.sS ["self"] (Pj ad):=by
 refine T.mS.F.ok iN (by rintro _ _ _ _ ⟨g,m,rfl,_⟩;rfl) (fun _ A _ s H vs Q E hr h=>?_)
 ·obtain⟨g,m,rfl,R,OL,hs,h15,kk⟩:=h;obtain⟨dx,su,hd,du,ra,ka,sa,ss,hu,afu,_⟩:=R.gk;refine⟨_,(aC (cf (i:=1) iN.nd rfl (be rfl) (fg ay))
   (aC (jP ck rfl (A7 rfl T.mr (af (aQ (aQ (pv 0) rfl) rfl) ay)) (tI rfl (fR (cv (i:=2) iN.nd rfl (be rfl)) (fR (cv (i:=3) iN.nd rfl (be rfl)) oT)))
   (aJ (jP ck rfl (CC rfl T.De (af (pv 3) ay)) (cv (i:=4) iN.nd rfl (be rfl))
   (aC (eu (lr a9 cK cJ ju (aQ (pv 0) rfl) (af (gg (pv 0) T.a6 T.mR.m (z8 T) hr.mono T.mR.b .nil bp (af (pv 2) ay)) ay)))
   (aJ (eu (lr a9 cK cJ ju (pv 1) (af (bH bg (by rfl) T.jx aV (af (aQ (pv 0) rfl) ay)) ay))))))))
   (aJ (bj (pv 1))))),?_⟩
  walk_at"";refine⟨by decide,fun q hq=>?_⟩;have oq:Out g m q:=R.out hq;walk_at"";refine⟨_,_,dx,_,_,rfl,bq hq hd,T.a6,T.f9,rfl,?_⟩;walk_at"";refine⟨_,_,du,_,_,rfl,bq hq (R.zs _ _ hu),T.iP,T.xh,rfl,?_⟩;walk_at"";refine⟨_,_,rfl,bW.of (bq hq (R.zs _ _ afu)),?_⟩;refine Bq (xs:=m.recipe.map nV) (fun i σ H'=>∃v2 v3 v4:Option V,σ=[some (.ref (g .dr)),some (.ref q),v2,v3,v4]/\Rep ad g (cP m i) H'/\Fr g m H g (cP m i) H'/\H' q=some (.lst ((cH m.sorts.length (cP m i).sorts.length).map nV)))
   ⟨none,none,none,rfl,R.same (aP _ hq),Fr.same (aP _ hq),?_⟩ (fun i σ H' _ ⟨_,_,_,_,R',_,_⟩=>?_) ?_ ?_
  ·have e:cH m.sorts.length (cP m 0).sorts.length=[]:=by
    show cH m.sorts.length m.sorts.length=[];unfold cH;rw[hG];rfl
   rw[e];exact ak
  ·exact bW.of (R'.zs _ _ afu)
  ·rintro i x σ H' tt hx ⟨v2,v3,v4,rfl,R',F',lU⟩ hT;obtain⟨h,hh,rfl⟩:=get_map hx;have hi:i<4:=by rw[<-OL.r4];exact(aw.mp hh).1
   have hhd:m.recipe.getD i 0=h:=by rw[aW,hh];rfl
   have ai1:=h15 i hi;rw[hhd]at ai1;have rdi:=Ae OL i;have nq:tt≠q:=fun e=>by rw[e,lU]at hT;cases hT
   have hlm:m.sorts.length<=(cP m i).sorts.length:=by rw[ng];omega
   have hub:(cP m i).sorts.length<=10100:=by
    rw[ng];have:((aG i).map fun k=>m.recipe.getD k 0).sum<=15*i:=by
     have:∀n,n<=4->((aG n).map fun k=>m.recipe.getD k 0).sum<=15*n:=by
      intro n hn;induction n with
      |zero=>exact ao _
      |succ n ih=>
       rw[dj,aF,yk];have:=ih (by omega);have:=h15 n (by omega);rw[bo,oh,eK,OT];omega
     exact this i (by omega)
    omega
   refine zj (wa.of ak) rfl ?_;walk_at"";refine⟨_,rfl,by omega,by omega,?_⟩;rw[bB];have YS:=bq (o:=.tup [.int ((i:Nat):Int),nV h]) hT lU;have R1:=R'.same (aP (.tup [.int ((i:Nat):Int),nV h]) hT);have F1:Fr g m H g (cP m i) (upd H' tt (.tup [.int ((i:Nat):Int),nV h])):=F'.trans (Fr.same (aP _ hT));generalize upd H' tt (.tup [.int ((i:Nat):Int),nV h])=H1 at YS R1 F1⊢;have hmi:(cP m i).recipe.getD i 0=h:=by rw[mx,hhd]
   have abz:∀r,iG (cP m i) r=iG m r:=CV m i;rw[fS,mx,hhd];generalize cP m i=mi at*;refine Jy (fun j σ H2=>∃v4:Option V,σ=[some (.ref (g .dr)),some (.ref q),some (.int (i:Int)),some (nV h),v4]/\Rep ad g (pQ mi i j) H2/\Fr g m H g (pQ mi i j) H2/\H2 q=some (.lst ((cH m.sorts.length (pQ mi i j).sorts.length).map nV)))
    ⟨_,rfl,by rw[Hy rdi hi];exact R1,by rw[Hy rdi hi];exact F1,by rw[Hy rdi hi];exact YS⟩ ?_ ?_
   ·rintro j σ H2 hj ⟨v4',rfl,R2,F2,uH⟩;have hL:=rdi.ne i hi (by omega);have oq2:Out g (pQ mi i j) q:=fun r hr e=>oq r (by rw[GY,abz]at hr;exact hr) e
    have hp4:i<mi.places.length:=by rw[rdi.p4];exact hi
    obtain⟨d2,su2,hd2,_⟩:=R2.gk;have Ie:H2 (g .sorts)=_:=R2.lst (r:=.sorts) trivial fun _ e=>e
    have hsl:(pQ mi i j).sorts.length=mi.sorts.length+j:=by
     show(mi.sorts++bR _ _ _).length=_;rw[ai,u6]
    walk_at"";refine⟨_,_,d2,_,_,rfl,hd2,T.a6,T.gH,rfl,?_⟩;refine⟨.inl ⟨rfl,_,bW.of Ie⟩,?_⟩;walk_at"";refine⟨_,d2,_,rfl,hd2,rfl,?_⟩;walk_at"";have lM:(pQ mi i j).places.getD i 0<((pQ mi i j).sheets.getD i []).length:=by
     rw[yJ hp4];exact iX _ hL
    refine⟨g,pQ mi i j,i,rfl,R2,(by show i<mi.sheets.length;rw[rdi.s4];exact hi),(by show i<(mi.places.set i _).length;rw[dD];exact hp4),lM,fun H3 R3 F3=>?_⟩;have aif:H3 (g .sorts)=some (.lst ((pQ mi i j).sorts.map nV)):=R3.lst (r:=.sorts) trivial fun _ e=>e
    walk_at"";refine xx aif (zg (by rw[ae,hsl];omega)) ?_;have es:((pQ mi i j).sheets.getD i []).getD ((pQ mi i j).places.getD i 0) 0=(mi.sheets.getD i []).getD ((mi.places.getD i 0+j) %(mi.sheets.getD i []).length) 0:=by rw[yJ hp4];rfl
    rw[es];have em:=Yr (m:=mi) (k:=i) (j:=j) hp4;have el:(pQ mi i j).sorts.map nV++[nV ((mi.sheets.getD i []).getD ((mi.places.getD i 0+j) %(mi.sheets.getD i []).length) 0)]=(pQ mi i (j+1)).sorts.map nV:=by
     rw[<-em,<-List.map_singleton,<-aF];rfl
    rw[el];have R4:Rep ad g (pQ mi i (j+1)) (upd H3 (g .sorts) (.lst ((pQ mi i (j+1)).sorts.map nV))):=by
     refine R3.set (m':=pQ mi i (j+1)) .sorts _ trivial rfl (fun r h=>by cases r<;>exact h) fun r hr hl u hu=>?_
     rw[<-em];cases r<;>first|exact hu|exact absurd rfl hr
    have F4:Fr g m H g (pQ mi i (j+1)) (upd H3 (g .sorts) (.lst ((pQ mi i (j+1)).sorts.map nV))):=F2.trans (F3.trans (Fr.set (ad:=ad) .sorts _ trivial fun r h=>by cases r<;>exact h));have NA:upd H3 (g .sorts) (.lst ((pQ mi i (j+1)).sorts.map nV)) q=some (.lst ((cH m.sorts.length (pQ mi i j).sorts.length).map nV)):=aX (fun e=>oq .sorts trivial e.symm) (F3.out _ _ uH oq2);generalize upd H3 (g .sorts) (.lst ((pQ mi i (j+1)).sorts.map nV))=H4 at R4 F4 NA⊢;obtain⟨d4,su4,hd4,_⟩:=R4.gk;have aie:H4 (g .sorts)=some (.lst ((pQ mi i (j+1)).sorts.map nV)):=R4.lst (r:=.sorts) trivial fun _ e=>e
    have aih:(pQ mi i (j+1)).sorts.length=mi.sorts.length+(j+1):=by
     show(mi.sorts++bR _ _ _).length=_;rw[ai,u6]
    walk_at"";refine⟨.inl ⟨rfl,_,bW.of NA⟩,?_⟩;walk_at"";refine⟨_,_,d4,_,_,rfl,hd4,T.a6,T.gH,rfl,?_⟩;walk_at"";refine⟨_,_,rfl,.inl (bW.of aie),?_⟩;walk_at"";refine xx NA (zg ?_) ?_
    ·rw[ae,hsl];unfold cH;rw[ae,ba];omega
    ·have ec:(cH m.sorts.length (pQ mi i j).sorts.length).map nV++[V.int ((((pQ mi i (j+1)).sorts.map nV).length:Nat):Int)]=(cH m.sorts.length (pQ mi i (j+1)).sorts.length).map nV:=by
      rw[ae,aih,hsl,show mi.sorts.length+(j+1)=(mi.sorts.length+j)+1 by omega,Hr (by omega),aF];rfl
     rw[ec];have oq5:Out g (pQ mi i (j+1)) q:=fun r hr e=>oq r (by rw[GY,abz]at hr;exact hr) e
     have zq:∀b o,g.z b=some o->b≠q:=fun b o e=>aR (R.zs b o e) hq
     refine⟨_,rfl,R4.keep (fun r hr o e=>aX (oq5 r hr) e) (fun b o ez e=>aX (zq b o ez) e),?_,ak⟩;refine⟨fun b o e h=>?_,F4.new,fun b e=>?_,F4.zs,F4.zn⟩
     ·exact aX (aR e hq) (F4.out b o e h)
     ·by_cases qb:b=q
      ·rw[qb];exact hq
      ·rw[cq qb]at e;exact F4.mono b e
   ·rintro σ H2 ⟨v4',rfl,R2,F2,uH⟩;exact⟨_,_,_,rfl,R2,F2,uH⟩
  ·rintro σ H' ⟨v2,v3,v4,rfl,R',F',lU⟩;rw[ae,OL.r4]at R' F' lU;walk_at"";exact kk H' q R' F' hq lU
theorem Oh{α:Type}{f:α->V}{p:α}{r:List α}:JL ((p::r).map f) 0=some (f p):=ya (by decide) rfl
def Fv(m:DM):Prop:=∀i,i<m.n->∀p∈m.queues i,m.pk p.origin=some p
def aeW(ad:Ad):Sp:=fun vs H Q _=>E5 fun(g:Gh) (m:DM) (i:Nat) (p:bA) (r:List bA)=>A6 (vs=[.ref (g .dr),.int (i:Int)]) (Rep ad g m H) (Fv m) (i<m.n) (m.queues i=p::r) (Q (nV (min m.takes p.cards.length)) H)
theorem Bf(T:Txt K mg ad):cF P w K mg base iC 1 ad.D7 ad.Eg ["self","i"] (aeW ad):=by
 refine T.o6.F.ok Ko (by rintro _ _ _ _ ⟨g,m,i,p,r,rfl,_⟩;rfl) (fun _ A _ s H vs Q E hr h=>?_)
 ·obtain⟨g,m,i,p,r,rfl,R,rN,hi,hq,k⟩:=h;obtain⟨dx,su,du,ra,ka,sa,ss,hd,hu,_⟩:=R.setup;obtain⟨ds,hs⟩:=R.dn hi;have Az:H (g .seats)=_:=R.lst (r:=.seats) trivial fun _ e=>e
  have k7:=R.row hi;rw[hq]at k7;have Jr:m.pk p.origin=some p:=rN i hi p (by rw[hq];exact ah);obtain⟨dp,ca,hp,hc,_⟩:=R.pack Jr;refine⟨_,(aJ (bj (bH (UR rfl) (by rfl) T.ajA PyProof.Rows.boot_min (af (aQ (aQ (pv 0) rfl) rfl) (af (bH bg (by rfl) T.jx aV (af (aQ (eB cj (aQ (eB cj (aQ (pv 0) rfl) (pv 1) (fun _ _=>rfl)) rfl) aS (fun _ _=>rfl)) rfl) ay)) ay))))),?_⟩;walk_at"";refine⟨_,_,dx,_,_,rfl,hd,T.a6,T.f9,rfl,?_⟩;walk_at"";refine⟨_,_,du,_,_,rfl,hu,T.iP,T.sq,rfl,?_⟩;walk_at"";refine⟨_,_,dx,_,_,rfl,hd,T.a6,T.c7,rfl,?_⟩;walk_at"";refine eO (bW.of Az) (uC hi) ?_;walk_at"";refine⟨_,_,ds,_,_,rfl,hs,T.cT,T.fh,rfl,?_⟩;walk_at"";refine eO (bW.of k7) Oh ?_;walk_at"";refine⟨_,_,dp,_,_,rfl,hp,T.fk,T.eA,rfl,?_⟩;walk_at"";refine⟨_,_,rfl,.inl (bW.of hc),?_⟩;walk_at"";refine⟨_,_,rfl,?_⟩;have e:V.int (if (((p.cards.map nV).length:Nat):Int)<(m.takes:Int)then(((p.cards.map nV).length:Nat):Int)else(m.takes:Int))=nV (min m.takes p.cards.length):=by
   rw[ae];show V.int _=V.int _
   congr 1
   split<;>omega
  rw[e];exact k
def ON(n round i:Nat):Nat:=if round %2=0 then(i+1) %n else(i+n-1) %n
def aeT(ad:Ad):Sp:=fun vs H Q _=>E3 fun(g:Gh) (m:DM) (i:Nat)=>A4 (vs=[.ref (g .dr),.int (i:Int)]) (Rep ad g m H) (0<m.n) (Q (nV (ON m.n m.round i)) H)
theorem Aa(T:Txt K mg ad):cF P w K mg base iC 1 ad.sL ad.sT ["self","i"] (aeT ad):=by
 refine T.mT.F.ok qL (by rintro _ _ _ _ ⟨g,m,i,rfl,_⟩;rfl) (fun _ A _ s H vs Q E hr h=>?_)
 ·obtain⟨g,m,i,rfl,R,hn,k⟩:=h;obtain⟨dx,su,hd,_⟩:=R.gk;have Az:H (g .seats)=_:=R.lst (r:=.seats) trivial fun _ e=>e
  refine⟨_,(aC (cf (i:=2) qL.nd rfl (be rfl) (bH bg (by rfl) T.jx aV (af (aQ (pv 0) rfl) ay)))
   (aC (i6 (eP vC (gF zZ (aQ (pv 0) rfl) aS) aS (fP _))
   (aJ (bj (gF zZ (gF qR (pv 1) aS) (pv 2))))
   eZ)
   (aJ (bj (gF zZ (gF CK (gF qR (pv 1) (pv 2)) aS) (pv 2)))))),?_⟩
  walk_at"";refine⟨_,_,dx,_,_,rfl,hd,T.a6,T.c7,rfl,?_⟩;walk_at"";refine⟨_,_,rfl,.inl (bW.of Az),?_⟩;rw[ae,ba];walk_at"";refine⟨_,_,dx,_,_,rfl,hd,T.a6,T.eU,rfl,?_⟩;walk_at"";refine EH (by show(0:Int)<2;decide) ?_;walk_at"";unfold ON at k;refine ik (fun c=>?_) fun c=>?_
  ·have c:(m.round:Int) %2=0:=of_decide_eq_true c;rw[if_pos (by omega)]at k;walk_at"";refine EH (by show(0:Int)<(m.n:Int);omega) ?_;have e:V.int (((i:Int)+1) %(m.n:Int))=nV ((i+1) %m.n):=by
    show V.int _=V.int _;rw[v9];rfl
   rw[e];exact k
  ·have c:¬(m.round:Int) %2=0:=by simpa using c
   rw[if_neg (by omega)]at k;walk_at"";refine EH (by show(0:Int)<(m.n:Int);omega) ?_;have e:V.int (((i:Int)+(m.n:Int)-1) %(m.n:Int))=nV ((i+m.n-1) %m.n):=by
    show V.int _=V.int _;rw[v9,show((i+m.n-1:Nat):Int)=(i:Int)+(m.n:Int)-1 by omega]
   rw[e];exact k
def Tv(K:aq)(ad:Ad):Sp:=fun vs H Q _=>E4 fun(g:Gh) (m:DM) (a:Addr) (cs:List Nat)=>A6 (vs=[.ref (g .dr),.ref a]) (Rep ad g m H) (bW K H a (cs.map nV)) (cs.length<=100000) (∀c∈cs,1<=c/\c<=m.sorts.length) (∀H' q,a7 H H'->H q=none->H' q=some (.lst ((cs.map fun c=>m.sorts.getD (c-1) 0).map nV))->Q (.ref q) H')
theorem eN(T:Txt K mg ad):cF P w K mg base iC 1 ad.ur ad.uy ["self","cards"] (Tv K ad):=by
 refine T.bO.F.ok mZ (by rintro _ _ _ _ ⟨g,m,a,cs,rfl,_⟩;rfl) (fun _ A _ s H vs Q E hr h=>?_)
 ·obtain⟨g,m,a,cs,rfl,R,hS,hl,xu,k⟩:=h;obtain⟨dx,su,hd,_⟩:=R.gk;have Ie:H (g .sorts)=_:=R.lst (r:=.sorts) trivial fun _ e=>e
  refine⟨_,(aJ (bj (si rfl mZ.nd (hJ (pv 1)) (gZ (N:=["self","cards","card"]) (sc:=aL oA) (own:=[("card",2)]) (by decide+kernel)) (fun _ _ _ _ _=>(cv (i:=2) mZ.nd rfl (be rfl) (jh rfl))) (fun _ _ _ _ _=>jO) (fun _ _ _ _ _=>(eB (r:=MQ K) cj (m9 (K':=K) rfl (pv 0) rfl) (gF CK (pv 2) aS) (fun _ _=>rfl)))))),?_⟩;walk_at"";refine⟨a,rfl,⟨_,hS⟩,fun D hD=>?_⟩;refine k5 (xs:=cs.map nV) (fun i H'=>a7 H H'/\H' D=some (.lst (((cs.take i).map fun c=>m.sorts.getD (c-1) 0).map nV))) ⟨aP _ hD,ak⟩ (fun i H' _ h=>h.1.seq hS) ?_ ?_
  ·rintro i x H' hx ⟨s1,mB⟩;obtain⟨c,hc,rfl⟩:=get_map hx;have hb:=xu c (bC hc);walk_at"";refine⟨rfl,?_⟩;walk_at"";refine oH ?_;walk_at"";refine⟨_,_,dx,_,_,rfl,s1 _ _ hd,T.a6,T.gH,rfl,?_⟩;walk_at"";have ec:(c:Int)-1=((c-1:Nat):Int):=by omega
   rw[ec];refine eO (bW.of (s1 _ _ Ie)) (Lx (by omega)) ?_;refine⟨_,mB,zg ?_,a7.put hD s1,?_⟩
   ·rw[ae,ae,bt];omega
   ·rw[take_snoc hc,aF,aF];exact ak
  ·rintro H' ⟨s1,mB⟩;rw[ae,bJ]at mB;exact k H' D s1 hD mB
def Pg(ad:Ad):Sp:=fun vs H Q _=>E5 fun(p dx c:Addr) (k o:Nat)=>A3 (vs=[.ref p,.int (k:Int),.int (o:Int),.ref c]) (H p=some (.ins ad.jU dx [])) (∀H',H' p=some (.ins ad.jU dx (PL k ⟨o,0,[]⟩ c))->ye p H H'->Q .lC H')
theorem KL(T:Txt K mg ad):cF P w K mg base iC 1 ad.D6 ad.Ef ["self","number","origin","cards"] (Pg ad):=by
 refine T.wm.F.ok Km (by rintro _ _ _ _ ⟨p,dx,c,k,o,rfl,_⟩;rfl) (fun _ A _ s H vs Q E hr h=>?_)
 ·obtain⟨p,dx,c,k',o,rfl,hp,k⟩:=h;refine⟨_,(aC (eR (pv 0) (pv 1) rfl)
   (aC (eR (pv 0) (pv 2) rfl)
   (aC (eR (pv 0) (pv 3) rfl)
   (aJ (eR (pv 0) aS rfl))))),?_⟩
  walk_at"";refine⟨p,_,dx,_,rfl,hp,T.fk,T.oX,by decide,?_⟩;walk_at"";refine⟨p,_,dx,_,rfl,ak,T.fk,T.tL,(by show 1<1000;decide),?_⟩;walk_at"";refine⟨p,_,dx,_,rfl,ak,T.fk,T.eA,(by show 2<1000;decide),?_⟩;walk_at"";refine⟨p,_,dx,_,rfl,ak,T.fk,T.oW,(by show 3<1000;decide),?_⟩;exact k _ ak fun b o e hb=>aX hb (aX hb (aX hb (aX hb e)))
theorem CU{Z:Hp}{l:NL}{bx:List (Key×V)}(h:gm Z l bx)(k:Nat):(bx.any fun kv=>decide (kv.1=(da (k:Int):Key)))=nP l k:=by
 unfold nP;induction h with
 |nil=>rfl
 |cons r _ ih=>
  rw[iR,iR,ih]
  congr 1
  rw[r.1];exact decide_eq_decide.mpr (yC _ k)
theorem GV{Z:Hp}{l:NL}{bx:List (Key×V)}(h:gm Z l bx){x:Nat×List Nat}{kv:Key×V}(r:QN Z x kv):gm Z (l++[x]) (bx++[kv]):=by
 induction h with
 |nil=>exact .cons r .nil
 |cons r' _ ih=>exact .cons r' ih
theorem Ui{Z:Hp}{l:NL}{bx:List (Key×V)}(h:gm Z l bx){k:Nat}{cs:List Nat}{a:Addr}(ha:Z a=some (.lst (cs.map nV))):gm Z (kX l (k,cs)) (putK bx (da (k:Int)) (.ref a)):=by
 have go:∀ {l:NL} {bx:List (Key×V)},gm Z l bx->gm Z (l.map fun y=>if y.1=k then(k,cs)else y) (bx.map fun kv=>if kv.1=da (k:Int)then(kv.1,V.ref a)else kv):=by
  intro l bx h;induction h with
  |nil=>exact .nil
  |cons r _ ih=>
   rename_i x kv _ _ _;refine .cons ?_ ih;show QN Z (if x.1=k then(k,cs)else x) (if kv.1=da (k:Int)then(kv.1,V.ref a)else kv);by_cases e:x.1=k
   ·rw[if_pos e,if_pos (by rw[r.1,e])];exact⟨by rw[r.1,e],a,rfl,ha⟩
   ·rw[if_neg e,if_neg (by rw[r.1];exact fun q=>e ((yC _ _).mp q))];exact r
 unfold kX putK;rw[CU h];show gm Z (if nP l k=true then _ else _) (if nP l k=true then _ else _);split
 ·exact go h
 ·exact GV h ⟨rfl,a,rfl,ha⟩
theorem Ul{Z:Hp}{l:NL}{bx:List (Key×V)}(h:gm Z l bx){k:Nat}{cs:List Nat}{a:Addr}(ha:Z a=some (.lst (cs.map nV)))(hv:p9 bx (da (k:Int))=none):gm Z (fe l (k,cs)) (putK bx (da (k:Int)) (.ref a)):=by
 rw[WC _ hv];have e:=CU h k;rw[wt,hv]at e;unfold fe;rw[show nP l (k,cs).1=false from e.symm,if_neg (by decide)];exact GV h ⟨rfl,a,rfl,ha⟩
theorem Uk{Z:Hp}{l:NL}{bx:List (Key×V)}(h:gm Z l bx){k:Nat}(cs:List Nat){v:V}(hv:p9 bx (da (k:Int))=some v):fe l (k,cs)=l:=by
 have e:=CU h k;rw[wt,hv]at e;unfold fe;rw[show nP l (k,cs).1=true from e.symm,if_pos rfl]
def looked(m:DM)(i:Nat)(p:bA):DM:={m with first:=fun j=>if j=i then fe (m.first i) (numOf m p.origin,p.cards)else m.first j,last:=fun j=>if j=i then kX (m.last i) (numOf m p.origin,p.cards)else m.last j}
theorem Paired.len{α β:Type}{F:α->β->Prop}{a:List α}{b:List β}(h:Paired F a b):a.length=b.length:=by
 induction h with
 |nil=>rfl
 |cons _ _ ih=>rw[az,az,ih]
def ach(ad:Ad):Sp:=fun vs H Q _=>E5 fun(g:Gh) (m:DM) (i:Nat) (p:bA) (r:List bA)=>A8 (vs=[.ref (g (.dn i))]) (Rep ad g m H) (Fv m) (i<m.n) (m.queues i=p::r) ((m.first i).length<=100000) ((m.last i).length<=100000) (∀H',Rep ad g (looked m i p) H'->Fr g m H g (looked m i p) H'->Q .lC H')
theorem Be(T:Txt K mg ad):cF P w K mg base iC 1 ad.D2 ad.Ed ["self"] (ach ad):=by
 refine T.o5.F.ok AW (by rintro _ _ _ _ ⟨g,m,i,p,r,rfl,_⟩;rfl) (fun _ A _ s H vs Q E hr h=>?_)
 ·obtain⟨g,m,i,p,r,rfl,R,rN,hi,hq,hb1,hb2,k⟩:=h;have hu:=abr hr;obtain⟨ds,hs⟩:=R.dn hi;have k7:=R.row hi;rw[hq]at k7;have Jr:m.pk p.origin=some p:=rN i hi p (by rw[hq];exact ah);obtain⟨dp,c,hp,hc,hz⟩:=R.pack Jr;obtain⟨kf,hf,lf⟩:=R.first hi;obtain⟨kl,hl,ll⟩:=R.last hi;have lpk:iG m (.pack p.origin):=by show(m.pk p.origin).isSome=true;rw[Jr];rfl
  have nfs:g (.dn i)≠g (.first i):=fun e=>by cases R.inj (.dn i) (.first i) hi hi e
  have nfp:g (.pack p.origin)≠g (.first i):=fun e=>by cases R.inj (.pack p.origin) (.first i) lpk hi e
  have nfl:g (.last i)≠g (.first i):=fun e=>by cases R.inj (.last i) (.first i) hi hi e
  refine⟨_,(aC (cf (i:=1) AW.nd rfl (be rfl) (eB cj (aQ (pv 0) rfl) aS (fun _ _=>rfl)))
   (aC (eu (acC hu (aQ (pv 0) rfl) (aQ (pv 1) rfl) (aQ (pv 1) rfl)))
   (aJ (Rz hu (aQ (pv 0) rfl) (aQ (pv 1) rfl) (aQ (pv 1) rfl) rfl)))),?_⟩
  walk_at"";refine⟨_,_,ds,_,_,rfl,hs,T.cT,T.fh,rfl,?_⟩;walk_at"";refine eO (bW.of k7) Oh ?_;walk_at"";refine⟨_,_,ds,_,_,rfl,hs,T.cT,T.mj,rfl,?_⟩;refine⟨_,rfl,.inl ⟨_,.inl hf⟩,?_⟩;walk_at"";refine⟨_,_,dp,_,_,rfl,hp,T.fk,T.oX,rfl,?_⟩;walk_at"";refine⟨_,_,dp,_,_,rfl,hp,T.fk,T.eA,rfl,?_⟩;have al8:=Paired.len lf;have al7:=Paired.len ll;have mid:∀H1 m1,m1={m with first:=fun j=>if j=i then fe (m.first i) (numOf m p.origin,p.cards)else m.first j}->Rep ad g m1 H1->Fr g m H g m1 H1->H1 (g (.dn i))=some (.ins ad.jf ds (seF g i))->H1 (g (.pack p.origin))=some (.ins ad.jU dp (PL (numOf m p.origin) p c))->H1 (g (.last i))=some (.dK kl)->
    Rep ad g (looked m i p) (upd H1 (g (.last i)) (.dK (putK kl (da ((numOf m p.origin:Nat):Int)) (.ref c))))/\Fr g m H g (looked m i p) (upd H1 (g (.last i)) (.dK (putK kl (da ((numOf m p.origin:Nat):Int)) (.ref c)))):=by
   rintro H1 m1 rfl R1 F1 _ _ _;refine⟨R1.set (m':=looked m i p) (.last i) _ hi ⟨_,rfl,?_⟩ (fun r h=>by cases r<;>exact h) fun r hr hl u hu=>?_,F1.trans (Fr.set (ad:=ad) (.last i) _ hi fun r h=>by cases r<;>exact h)⟩
   ·show gm g.z (if i=i then kX (m.last i) (numOf m p.origin,p.cards)else m.last i) _;rw[if_pos rfl];exact Ui ll hz
   ·cases r with
    |last j=>
     obtain⟨bx,rfl,l'⟩:=hu;refine⟨bx,rfl,?_⟩;have ne:¬j=i:=fun e=>hr (by rw[e])
     show gm g.z (if j=i then kX (m.last i) (numOf m p.origin,p.cards)else m.last j) _;rw[if_neg ne];exact l'
    |_=>exact hu
  refine⟨kf,da ((numOf m p.origin:Nat):Int),hf,rfl,zg (by omega),fun v hv=>?_,fun hv=>?_⟩
  ·have e:m={m with first:=fun j=>if j=i then fe (m.first i) (numOf m p.origin,p.cards)else m.first j}:=by
    have:(fun j=>if j=i then fe (m.first i) (numOf m p.origin,p.cards)else m.first j)=m.first:=by
     funext j
     split
     ·rename_i q;rw[Uk lf _ hv,q]
     ·rfl
    rw[this]
   obtain⟨Ra,Fa⟩:=mid H m e R (Fr.refl _ _ _) hs hp hl;walk_at"";refine⟨_,_,dp,_,_,rfl,hp,T.fk,T.eA,rfl,?_⟩;walk_at"";refine⟨_,_,ds,_,_,rfl,hs,T.cT,T.i8,rfl,?_⟩;walk_at"";refine⟨_,_,dp,_,_,rfl,hp,T.fk,T.oX,rfl,?_⟩;refine⟨_,_,rfl,Ov.k (k:=da ((numOf m p.origin:Nat):Int)) hl (zg (by omega)),?_⟩;exact k _ Ra Fa
  ·have R1:Rep ad g {m with first:=fun j=>if j=i then fe (m.first i) (numOf m p.origin,p.cards)else m.first j} (upd H (g (.first i)) (.dK (putK kf (da ((numOf m p.origin:Nat):Int)) (.ref c)))):=by
    refine R.set (.first i) _ hi ⟨_,rfl,?_⟩ (fun r h=>by cases r<;>exact h) fun r hr hl u hu=>?_
    ·show gm g.z (if i=i then fe (m.first i) (numOf m p.origin,p.cards)else m.first i) _;rw[if_pos rfl];exact Ul lf hz hv
    ·cases r with
     |first j=>
      obtain⟨bx,rfl,l'⟩:=hu;refine⟨bx,rfl,?_⟩;have ne:¬j=i:=fun e=>hr (by rw[e])
      show gm g.z (if j=i then fe (m.first i) (numOf m p.origin,p.cards)else m.first j) _;rw[if_neg ne];exact l'
     |_=>exact hu
   have G5:=aX (o:=.dK (putK kf (da ((numOf m p.origin:Nat):Int)) (.ref c))) nfs hs;have zh:=aX (o:=.dK (putK kf (da ((numOf m p.origin:Nat):Int)) (.ref c))) nfp hp;have hl1:=aX (o:=.dK (putK kf (da ((numOf m p.origin:Nat):Int)) (.ref c))) nfl hl;obtain⟨Ra,Fa⟩:=mid _ _ rfl R1 (Fr.set (ad:=ad) (.first i) _ hi fun r h=>by cases r<;>exact h) G5 zh hl1;walk_at"";refine⟨_,_,dp,_,_,rfl,zh,T.fk,T.eA,rfl,?_⟩;walk_at"";refine⟨_,_,ds,_,_,rfl,G5,T.cT,T.i8,rfl,?_⟩;walk_at"";refine⟨_,_,dp,_,_,rfl,zh,T.fk,T.oX,rfl,?_⟩;refine⟨_,_,rfl,Ov.k (k:=da ((numOf m p.origin:Nat):Int)) hl1 (zg (by omega)),?_⟩;exact k _ Ra Fa
def kW(m:DM)(i:Nat)(q:List bA):DM:={m with queues:=fun j=>if j=i then q else m.queues j}
theorem jq(m:DM)(i:Nat)(q:List bA):(kW m i q).queues i=q:=if_pos rfl
theorem m8{m:DM}{i j:Nat}{q:List bA}(h:j≠i):(kW m i q).queues j=m.queues j:=if_neg h
theorem MR{ad:Ad}{g:Gh}{m:DM}{H:Hp}(R:Rep ad g m H){i:Nat}(hi:i<m.n)(q:List bA):Rep ad g (kW m i q) (upd H (g (.row i)) (.lst (q.map fun p=>.ref (g (.pack p.origin))))):=by
 refine R.set (m':=kW m i q) (.row i) _ hi ?_ (fun r h=>by cases r<;>exact h) fun r hr hl u hu=>?_
 ·show HO.lst _=HO.lst (((kW m i q).queues i).map _);rw[jq]
 ·cases r with
  |row j=>
   have ne:j≠i:=fun e=>hr (by rw[e])
   show u=HO.lst (((kW m i q).queues j).map _);rw[m8 ne];exact hu
  |_=>exact hu
theorem Rw{g:Gh}{m:DM}{H:Hp}{i:Nat}(hi:i<m.n)(q:List bA)(o:HO):Fr g m H g (kW m i q) (upd H (g (.row i)) o):=by
 refine⟨fun b u e h=>aX (fun q=>h (.row i) hi q.symm) e,fun r hr=>.inl ⟨?_,rfl⟩,fun b e=>?_,a7.refl _,fun _ h=>.inl h⟩
 ·cases r<;>exact hr
 ·by_cases q:b=g (.row i)
  ·rw[q,ak]at e;cases e
  ·rw[cq q]at e;exact e
def recv(m:DM)(i:Nat)(p:bA):DM:=if m.queues i=[]then looked (kW m i (m.queues i++[p])) i p else kW m i (m.queues i++[p])
def rel(m:DM)(i:Nat)(r:List bA):DM:=match r with
 |[]=>kW m i []
 |p::r'=>looked (kW m i (p::r')) i p
structure Small(m:DM)(i:Nat):Prop where
 q:(m.queues i).length<=100000
 f:(m.first i).length<=100000
 l:(m.last i).length<=100000
def Tz(ad:Ad):Sp:=fun vs H Q _=>E4 fun(g:Gh) (m:DM) (i:Nat) (p:bA)=>A6 (vs=[.ref (g (.dn i)),.ref (g (.pack p.origin))]) (Rep ad g m H) (Fv m) (i<m.n) (m.pk p.origin=some p) (Small m i/\∀H',Rep ad g (recv m i p) H'->Fr g m H g (recv m i p) H'->Q .lC H')
theorem Lm{m:DM}(h:Fv m){i:Nat}{p:bA}(hp:m.pk p.origin=some p):Fv (kW m i (m.queues i++[p])):=by
 intro j hj x hx;by_cases e:j=i
 ·subst e;rw[jq,aH,aN]at hx;rcases hx with hx|rfl
  ·exact h j hj x hx
  ·exact hp
 ·rw[m8 e]at hx;exact h j hj x hx
theorem Ho{m:DM}(h:Fv m){i:Nat}{p:bA}{r:List bA}(hq:m.queues i=p::r):Fv (kW m i r):=by
 intro j hj x hx;by_cases e:j=i
 ·subst e;rw[jq]at hx;exact h j hj x (by rw[hq];exact aA _ hx)
 ·rw[m8 e]at hx;exact h j hj x hx
theorem vE(T:Txt K mg ad):cF P w K mg base iC 2 ad.xE ad.xT ["self","pack"] (Tz ad):=by
 refine T.ku.F.ok Et (by rintro _ _ _ _ ⟨g,m,i,p,rfl,_⟩;rfl) (fun _ A _ s H vs Q E hr h=>?_)
 ·obtain⟨g,m,i,p,rfl,R,rN,hi,Jr,sm,k⟩:=h;obtain⟨ds,hs⟩:=R.dn hi;have k7:=R.row hi;refine⟨_,(aC (eu (lr a9 cK cJ ju (aQ (pv 0) rfl) (af (pv 1) ay)))
   (aJ (i6 (eP vC (bH bg (by rfl) T.jx aV (af (aQ (pv 0) rfl) ay)) aS (fP _))
   (aJ (eu (gf (pv 0) T.cT T.o5.m (Be T) hr.mono T.o5.b .nil bp)))
   eZ))),?_⟩
  walk_at"";refine⟨_,_,ds,_,_,rfl,hs,T.cT,T.fh,rfl,?_⟩;refine⟨.inl ⟨rfl,_,bW.of k7⟩,?_⟩;walk_at"";refine xx k7 (zg (by rw[ae];have:=sm.q;omega)) ?_;have e1:(m.queues i).map (fun p=>V.ref (g (.pack p.origin)))++[V.ref (g (.pack p.origin))]=(m.queues i++[p]).map fun p=>V.ref (g (.pack p.origin)):=by rw[aF];rfl
  rw[e1];have R1:=MR R hi (m.queues i++[p]);have F1:=Rw (g:=g) (H:=H) hi (m.queues i++[p]) (.lst ((m.queues i++[p]).map fun p=>V.ref (g (.pack p.origin))));have N9:=Lm (i:=i) rN Jr;generalize upd H (g (.row i)) (.lst ((m.queues i++[p]).map fun p=>V.ref (g (.pack p.origin))))=H1 at R1 F1⊢;have Vo:i<(kW m i (m.queues i++[p])).n:=hi;obtain⟨d1,G5⟩:=R1.dn Vo;have G6:=R1.row Vo;rw[jq]at G6;walk_at"";refine⟨_,_,d1,_,_,rfl,G5,T.cT,T.fh,rfl,?_⟩;walk_at"";refine⟨_,_,rfl,.inl (bW.of G6),?_⟩;walk_at"";rw[ae,ai];refine ik (fun c=>?_) fun c=>?_
  ·have c:=of_decide_eq_true c;have OO:m.queues i=[]:=by
    cases e:m.queues i with
    |nil=>rfl
    |cons x r=>rw[e]at c;simp at c;omega
   have er:recv m i p=looked (kW m i (m.queues i++[p])) i p:=if_pos OO;rw[er]at k;walk_at"";refine⟨_,d1,_,rfl,G5,rfl,?_⟩;walk_at"";refine⟨g,_,i,p,[],rfl,R1,N9,hi,by rw[jq,OO];rfl,sm.f,sm.l,fun H2 R2 F2=>?_⟩;exact k H2 R2 (F1.trans F2)
  ·have c:¬((((m.queues i).length+ [p].length:Nat):Int)=1):=by simpa using c
   have OO:¬m.queues i=[]:=by
    intro e;rw[e]at c;simp at c
   have er:recv m i p=kW m i (m.queues i++[p]):=if_neg OO;rw[er]at k;walk_at"";exact k H1 R1 F1
theorem ahx{α:Type}(p:α)(r:List α):seqIndex? 0 (p::r).length=some 0:=by
 unfold seqIndex?;simp
def Tx(ad:Ad):Sp:=fun vs H Q _=>E5 fun(g:Gh) (m:DM) (i:Nat) (p:bA) (r:List bA)=>A6 (vs=[.ref (g (.dn i))]) (Rep ad g m H) (Fv m) (i<m.n) (m.queues i=p::r) (Small m i/\∀H',Rep ad g (rel m i r) H'->Fr g m H g (rel m i r) H'->Q (.ref (g (.pack p.origin))) H')
theorem ED(T:Txt K mg ad):cF P w K mg base iC 2 ad.xD ad.xS ["self"] (Tx ad):=by
 refine T.qF.F.ok vx (by rintro _ _ _ _ ⟨g,m,i,p,r,rfl,_⟩;rfl) (fun _ A _ s H vs Q E hr h=>?_)
 ·obtain⟨g,m,i,p,r,rfl,R,rN,hi,hq,sm,k⟩:=h;obtain⟨ds,hs⟩:=R.dn hi;have k7:=R.row hi;rw[hq]at k7;refine⟨_,(aC (cf (i:=1) vx.nd rfl (be rfl) (lr a9 PySem.F.slot_list_pop PySem.F.type_list_pop W7 (aQ (pv 0) rfl) (af aS ay)))
   (aC (i6 (eP zc (bH bg (by rfl) T.jx aV (af (aQ (pv 0) rfl) ay)) aS (fP _))
   (aJ (eu (gf (pv 0) T.cT T.o5.m (Be T) hr.mono T.o5.b .nil bp)))
   eZ)
   (aJ (bj (pv 1))))),?_⟩
  walk_at"";refine⟨_,_,ds,_,_,rfl,hs,T.cT,T.fh,rfl,?_⟩;refine⟨.inl ⟨rfl,_,bW.of k7⟩,?_⟩;walk_at"";refine⟨_,_,_,0,_,rfl,rfl,k7,by decide,by decide,(by rw[ae];exact ahx _ _),rfl,?_⟩;have R1:=MR R hi r;have F1:=Rw (g:=g) (H:=H) hi r (.lst (r.map fun p=>V.ref (g (.pack p.origin))));have N9:=Ho rN hq;have el:((p::r).map fun p=>V.ref (g (.pack p.origin))).eraseIdx 0=r.map fun p=>V.ref (g (.pack p.origin)):=rfl
  rw[el];generalize upd H (g (.row i)) (.lst (r.map fun p=>V.ref (g (.pack p.origin))))=H1 at R1 F1⊢;have Vo:i<(kW m i r).n:=hi;obtain⟨d1,G5⟩:=R1.dn Vo;have G6:=R1.row Vo;rw[jq]at G6;walk_at"";refine⟨_,_,d1,_,_,rfl,G5,T.cT,T.fh,rfl,?_⟩;walk_at"";refine⟨_,_,rfl,.inl (bW.of G6),?_⟩;walk_at"";rw[ae];cases r with
  |nil=>
   refine EF ?_;walk_at"";exact k H1 R1 F1
  |cons p2 r2=>
   refine ik (fun _=>?_) fun c=>?_
   ·walk_at"";refine⟨_,d1,_,rfl,G5,rfl,?_⟩;walk_at"";refine⟨g,_,i,p2,r2,rfl,R1,N9,hi,jq _ _ _,sm.f,sm.l,fun H2 R2 F2=>?_⟩;walk_at"";exact k H2 R2 (F1.trans F2)
   ·exact absurd (decide_eq_true (show(0:Int)<(((p2::r2).length:Nat):Int)by rw[az];omega)) c
def eT(m:DM)(i:Nat)(p:Option bA):DM:={m with pk:=fun o=>if o=i then p else m.pk o}
theorem kG(m:DM)(i:Nat)(p:Option bA):(eT m i p).pk i=p:=if_pos rfl
theorem jY{m:DM}{i o:Nat}{p:Option bA}(h:o≠i):(eT m i p).pk o=m.pk o:=if_neg h
def isP:Role->Prop
 |.pack _=>True
 |_=>False
def BQ(g g':Gh):Prop:=∀r,¬isP r->g' r=g r
theorem BQ.refl(g:Gh):BQ g g:=fun _ _=>rfl
theorem BQ.trans{g g1 g2:Gh}(a:BQ g g1)(b:BQ g1 g2):BQ g g2:=fun r h=>(b r h).trans (a r h)
def sC(g:Gh)(i:Nat)(x q:Addr)(cs:List Nat):Gh:=kr (adj g (.pack i) x) q (.lst (cs.map nV))
theorem oI(g:Gh)(i:Nat)(x q:Addr)(cs:List Nat):sC g i x q cs (.pack i)=x:=UC _ _ _
theorem nr{g:Gh}{i:Nat}{x q:Addr}{cs:List Nat}{r:Role}(h1:r≠ .pack i):sC g i x q cs r=g r:=aan h1
theorem Al(g:Gh)(i:Nat)(x q:Addr)(cs:List Nat):BQ g (sC g i x q cs):=fun r h=>nr (fun e=>h (by rw[e];trivial))
theorem Si{g:Gh}{i:Nat}{x q:Addr}{cs:List Nat}(hz:g.z q=none):a7 g.z (sC g i x q cs).z:=fun b o e=>bq hz e
theorem yV.FW{ad:Ad}{g g':Gh}{m:DM}(st:BQ g g')(s:a7 g.z g'.z)(hq:∀j,j<m.n->∀p∈m.queues j,g' (.pack p.origin)=g (.pack p.origin)):∀ {r:Role} {o:HO},iG m r->yV ad g m r o->yV ad g' m r o:=by
 intro r o hl c;cases r with
 |dr=>
  obtain⟨dx,su,rfl,h2⟩:=c;refine⟨dx,su,?_,h2.same s⟩;unfold YZ;rw[st .seats (fun h=>h),st .places (fun h=>h),st .sorts (fun h=>h),st .picks (fun h=>h)]
 |seats=>
  have e:o=_:=c;show o=HO.lst ((aG m.n).map fun i'=>V.ref (g' (.dn i')));rw[e]
  congr 1
  apply bU
  intro j _;rw[st (.dn j) (fun h=>h)]
 |dn j=>
  obtain⟨d,rfl⟩:=c;refine⟨d,?_⟩;unfold seF;rw[st (.row j) (fun h=>h),st (.pool j) (fun h=>h),st (.first j) (fun h=>h),st (.last j) (fun h=>h)]
 |row j=>
  have e:o=_:=c;show o=HO.lst ((m.queues j).map fun p'=>V.ref (g' (.pack p'.origin)));rw[e]
  congr 1
  apply bU
  intro p' vU;rw[hq j hl p' vU]
 |picks=>obtain⟨as,h1,h2⟩:=c;exact⟨as,h1,h2.same s⟩
 |first i=>obtain⟨bx,h1,h2⟩:=c;exact⟨bx,h1,h2.same s⟩
 |last i=>obtain⟨bx,h1,h2⟩:=c;exact⟨bx,h1,h2.same s⟩
 |pack o'=>obtain⟨p,dx,a,h1,h2,h3⟩:=c;exact⟨p,dx,a,h1,h2,s _ _ h3⟩
 |places=>exact c
 |sorts=>exact c
 |pool j=>exact c
theorem gv{m:DM}{i:Nat}{p:Option bA}{r:Role}(h1:r≠ .pack i)(hl:iG (eT m i p) r):iG m r:=by
 cases r with
 |pack o=>
  have ne:o≠i:=fun e=>h1 (by rw[e])
  have YT:((eT m i p).pk o).isSome=true:=hl;rw[jY ne]at YT;exact YT
 |_=>exact hl
theorem vg{ad:Ad}{g:Gh}{m:DM}{i:Nat}{p:Option bA}{r:Role}{o:HO}(h1:r≠ .pack i)(c:yV ad g m r o):yV ad g (eT m i p) r o:=by
 cases r with
 |pack o'=>
  have ne:o'≠i:=fun e=>h1 (by rw[e])
  obtain⟨p',d,a,e1,rfl,e2⟩:=c;exact⟨p',d,a,by rw[jY ne];exact e1,rfl,e2⟩
 |_=>exact c
theorem Rep.ZW{ad:Ad}{g:Gh}{m:DM}{H:Hp}(R:Rep ad g m H)(rN:Fv m){i:Nat}(hn:m.pk i=none){p:bA}{x q:Addr}(hx:Out g m x)(hq:Out g m q)(zx:g.z x=none)(zq:g.z q=none){dx:Addr}
  (hX:H x=some (.ins ad.jU dx (PL (numOf m i) p q)))(hQ:H q=some (.lst (p.cards.map nV))):Rep ad (sC g i x q p.cards) (eT m i (some p)) H:=by
 have nxq:x≠q:=uj hX hQ (by intro z;cases z);have ezq:(sC g i x q p.cards).z q=some (.lst (p.cards.map nV)):=ak;have ezn:∀ {b},b≠q->(sC g i x q p.cards).z b=g.z b:=fun h=>cq h
 have gs:=Al g i x q p.cards;have gz:=Si (i:=i) (x:=x) (cs:=p.cards) zq;have gq:∀j,j<m.n->∀p'∈m.queues j,sC g i x q p.cards (.pack p'.origin)=g (.pack p'.origin):=by
  intro j hj p' vU;have ne:p'.origin≠i:=by
   intro eo;have:=rN j hj p' vU;rw[eo,hn]at this;cases this
  exact nr (by intro h;cases h;exact ne rfl)
 refine⟨fun r r' h h' e=>?_,fun r h=>?_,fun b o e=>?_,fun b o e r h=>?_⟩
 ·by_cases a1:r=.pack i
  ·by_cases b1:r'=.pack i
   ·rw[a1,b1]
   ·rw[a1,oI,nr b1]at e;exact absurd e.symm (hx r' (gv b1 h'))
  ·by_cases b1:r'=.pack i
   ·rw[b1,oI,nr a1]at e;exact absurd e (hx r (gv a1 h))
   ·rw[nr a1,nr b1]at e;exact R.inj r r' (gv a1 h) (gv b1 h') e
 ·by_cases a1:r=.pack i
  ·subst a1;rw[oI];exact⟨_,hX,p,dx,q,kG _ _ _,rfl,ezq⟩
  ·obtain⟨o,h1,h2⟩:=R.at_ r (gv a1 h);rw[nr a1];exact⟨o,h1,vg a1 (yV.FW gs gz gq (gv a1 h) h2)⟩
 ·by_cases eb:b=q
  ·rw[eb,ezq]at e;cases e;rw[eb];exact hQ
  ·rw[ezn eb]at e;exact R.zs b o e
 ·by_cases a1:r=.pack i
  ·rw[a1,oI];intro ex;rw[<-ex,ezn nxq,zx]at e;cases e
  ·rw[nr a1];by_cases eb:b=q
   ·rw[eb];exact hq r (gv a1 h)
   ·rw[ezn eb]at e;exact R.zo b o e r (gv a1 h)
theorem xX{m:DM}(h:Fv m){i:Nat}(hn:m.pk i=none)(p:bA):Fv (eT m i (some p)):=by
 intro j hj p' vU;have q:=h j hj p' vU;have ne:p'.origin≠i:=by
  intro e;rw[e,hn]at q;cases q
 rw[jY ne];exact q
def jr(m:DM)(i:Nat):DM:=recv (eT (cP m 4) i (some ⟨i,0,cH m.sorts.length (cP m 4).sorts.length⟩)) i ⟨i,0,cH m.sorts.length (cP m 4).sorts.length⟩
def gO(m:DM)(k:Nat):DM:=(aG k).foldl jr m
theorem mf(m:DM)(k:Nat):gO m (k+1)=jr (gO m k) k:=Ma.gJ _ _ _
structure Av(m:DM)(k:Nat):Prop where
 OL:Ready m
 rN:Fv m
 pkn:∀o,k<=o->m.pk o=none
 qn:∀j,k<=j->m.queues j=[]
 sb:∀j,(m.first j).length<=5000+k/\(m.last j).length<=5000+k
 r15:∀k,k<4->m.recipe.getD k 0<=15
theorem pM(m:DM):∀k,(cP m k).n=m.n
 |0=>rfl
 |k+1=>by rw[fS];exact pM m k
theorem qm(m:DM):∀k,(cP m k).pk=m.pk
 |0=>rfl
 |k+1=>by rw[fS];exact qm m k
theorem i7(m:DM):∀k,(cP m k).queues=m.queues
 |0=>rfl
 |k+1=>by rw[fS];exact i7 m k
theorem u9(m:DM):∀k,(cP m k).first=m.first
 |0=>rfl
 |k+1=>by rw[fS];exact u9 m k
theorem yA(m:DM):∀k,(cP m k).last=m.last
 |0=>rfl
 |k+1=>by rw[fS];exact yA m k
theorem oG(m:DM):∀k,(cP m k).round=m.round
 |0=>rfl
 |k+1=>by rw[fS];exact oG m k
theorem KO{m:DM}(h:∀k,k<4->m.recipe.getD k 0<=15):m.sorts.length<=(cP m 4).sorts.length/\(cP m 4).sorts.length<=m.sorts.length+60:=by
 rw[ng,Ma.Ct];simp only[bo,oh,eK,OT];have:=h 0 (by decide);have:=h 1 (by decide);have:=h 2 (by decide);have:=h 3 (by decide);omega
theorem Cs(m:DM)(i:Nat)(p:bA):(recv m i p).n=m.n:=by unfold recv;split<;>rfl
theorem Fe(m:DM)(i:Nat)(p:bA):(recv m i p).pk=m.pk:=by unfold recv;split<;>rfl
theorem Gk(m:DM)(i:Nat)(p:bA):(recv m i p).sorts=m.sorts:=by unfold recv;split<;>rfl
theorem DA(m:DM)(i:Nat)(p:bA):(recv m i p).recipe=m.recipe:=by unfold recv;split<;>rfl
theorem mw(m:DM)(i:Nat)(p:bA):(recv m i p).queues=(kW m i (m.queues i++[p])).queues:=by unfold recv;split<;>rfl
theorem Pz{m:DM}(h:Ready m)(i:Nat)(p:bA):Ready (recv m i p):=by
 unfold recv;split
 ·exact⟨h.s4,h.p4,h.r4,h.ne,h.pl⟩
 ·exact⟨h.s4,h.p4,h.r4,h.ne,h.pl⟩
theorem aaP(l:NL)(x:Nat×List Nat):(fe l x).length<=l.length+1:=by
 unfold fe;split
 ·omega
 ·rw[ai];exact ao _
theorem ZF(l:NL)(x:Nat×List Nat):(kX l x).length<=l.length+1:=by
 unfold kX;split
 ·rw[ae];omega
 ·rw[ai];exact ao _
theorem GW(m:DM)(i:Nat)(p:bA)(j:Nat):((looked m i p).first j).length<=(m.first j).length+1/\((looked m i p).last j).length<=(m.last j).length+1:=by
 constructor
 ·show(if j=i then fe (m.first i) _ else m.first j).length<=_;split
  ·rename_i e;rw[e];exact aaP _ _
  ·omega
 ·show(if j=i then kX (m.last i) _ else m.last j).length<=_;split
  ·rename_i e;rw[e];exact ZF _ _
  ·omega
theorem Ww(m:DM)(i:Nat)(p:bA)(j:Nat):((recv m i p).first j).length<=(m.first j).length+1/\((recv m i p).last j).length<=(m.last j).length+1:=by
 unfold recv;split
 ·exact GW _ _ _ _
 ·exact⟨iV _,iV _⟩
theorem Gm(m:DM)(i:Nat)(p:bA):(recv m i p).round=m.round:=by unfold recv;split<;>rfl
theorem M3{m:DM}{k:Nat}(h:Av m k):Av (jr m k) (k+1):=by
 have le:=KO h.r15;unfold jr;generalize hp:(⟨k,0,cH m.sorts.length (cP m 4).sorts.length⟩:bA)=p;have Xs:p.origin=k:=by rw[<-hp]
 have rd:Ready (eT (cP m 4) k (some p)):=let r:=Ae h.OL 4;⟨r.s4,r.p4,r.r4,r.ne,r.pl⟩;have adU:Fv (cP m 4):=by
  intro i hi x hx;rw[qm];rw[i7]at hx;exact h.rN i (by rw[pM]at hi;exact hi) x hx
 have N9:Fv (eT (cP m 4) k (some p)):=xX adU (by rw[qm];exact h.pkn k (ao _)) p;refine⟨Pz rd _ _,?_,?_,?_,?_,?_⟩
 ·intro i hi x hx;rw[Fe];rw[mw]at hx;rw[Cs]at hi;exact Lm (i:=k) (p:=p) N9 (by rw[Xs,kG]) i hi x hx
 ·intro o ho;rw[Fe,jY (by omega),qm];exact h.pkn o (by omega)
 ·intro j hj;rw[mw,m8 (by omega)];show(cP m 4).queues j=[];rw[i7];exact h.qn j (by omega)
 ·intro j;have a:=Ww (eT (cP m 4) k (some p)) k p j;have b:=h.sb j;have e1:(eT (cP m 4) k (some p)).first=m.first:=u9 m 4;have e2:(eT (cP m 4) k (some p)).last=m.last:=yA m 4;rw[e1,e2]at a;omega
 ·intro j hj;rw[DA];show(cP m 4).recipe.getD j 0<=15;rw[mx];exact h.r15 j hj
theorem Jb(m:DM)(k:Nat):(jr m k).n=m.n:=by unfold jr;rw[Cs];show(cP m 4).n=_;rw[pM]
theorem HY(m:DM)(k:Nat):(jr m k).sorts=(cP m 4).sorts:=by unfold jr;rw[Gk];rfl
theorem HZ(m:DM)(k:Nat):(jr m k).round=m.round:=by unfold jr;rw[Gm];show(cP m 4).round=_;rw[oG]
theorem DF(m:DM):∀k,(gO m k).round=m.round
 |0=>rfl
 |k+1=>by rw[mf,HZ,DF m k]
theorem RF(m:DM):∀k,(gO m k).n=m.n
 |0=>rfl
 |k+1=>by rw[mf,Jb,RF m k]
theorem CH{m:DM}(h:Av m 0):∀k,Av (gO m k) k/\(gO m k).n=m.n/\(gO m k).sorts.length<=m.sorts.length+60*k
 |0=>⟨h,rfl,ao _⟩
 |k+1=>by
  obtain⟨a,b,c⟩:=CH h k;rw[mf];refine⟨M3 a,by rw[Jb,b],?_⟩;rw[HY];have:=KO a.r15;omega
def acd(ad:Ad):Sp:=fun vs H Q _=>E2 fun(g:Gh) (m:DM)=>A6 (vs=[.ref (g .dr)]) (Rep ad g m H) (0<m.n->Av m 0) (m.n<=8) (m.sorts.length<=5000) (m.round<=100/\∀H' g',Rep ad g' (gO m m.n) H'->Fr g m H g' (gO m m.n) H'->BQ g g'->Q .lC H')
theorem pU(T:Txt K mg ad):cF P w K mg base iC 4 ad.rh ad.rn ["self"] (acd ad):=by
 refine T.iK.F.ok jo (by rintro _ _ _ _ ⟨g,m,rfl,_⟩;rfl) (fun _ A _ s H vs Q E hr h=>?_)
 ·obtain⟨g,m,rfl,R,oi,hn8,hs5,LQ,kk⟩:=h;obtain⟨dx,su,hd,_⟩:=R.gk;have Az:H (g .seats)=_:=R.lst (r:=.seats) trivial fun _ e=>e
  have hlen:((aG m.n).map fun i=>V.ref (g (.dn i))).length=m.n:=by rw[ae,ba]
  refine⟨_,(aC (cf (i:=1) jo.nd rfl (be rfl) (gF KA (aQ (pv 0) rfl) (bH bg (by rfl) T.jx aV (af (aQ (pv 0) rfl) ay))))
   (aJ (jP ck rfl (A7 rfl T.mr (af (aQ (pv 0) rfl) ay)) (tI rfl (fR (cv (i:=2) jo.nd rfl (be rfl)) (fR (cv (i:=3) jo.nd rfl (be rfl)) oT)))
   (aJ (eu (gg (pv 3) T.cT T.ku.m (vE T) hr.mono T.ku.b .nil bp (af (lT T.wm.m (KL T) hr.mono rfl T.Z0 T.wm.b .nil bp (af (gF qR (pv 1) (pv 2)) (af (pv 2) (af (gf (pv 0) T.a6 T.mS.m (z9 T) hr.mono T.mS.b .nil bp) ay)))) ay))))))),?_⟩
  walk_at"";refine⟨_,_,dx,_,_,rfl,hd,T.a6,T.eU,rfl,?_⟩;walk_at"";refine⟨_,_,dx,_,_,rfl,hd,T.a6,T.c7,rfl,?_⟩;walk_at"";refine⟨_,_,rfl,.inl (bW.of Az),?_⟩;rw[hlen];refine EH (.inl ⟨by omega,by omega⟩) ?_;walk_at"";refine⟨_,_,dx,_,_,rfl,hd,T.a6,T.c7,rfl,?_⟩;walk_at"";refine⟨_,_,rfl,bW.of Az,?_⟩;refine Bq (xs:=(aG m.n).map fun i=>V.ref (g (.dn i))) (fun k σ H'=>∃(v1 v2:Option V) (g':Gh),σ=[some (.ref (g .dr)),some (.int ((m.round:Int)*(m.n:Int))),v1,v2]/\Rep ad g' (gO m k) H'/\Fr g m H g' (gO m k) H'/\BQ g g')
   ⟨none,none,g,rfl,R,Fr.refl _ _ _,BQ.refl _⟩ (fun k σ H' _ ⟨_,_,g',_,R',_,st⟩=>?_) ?_ ?_
  ·have h1:=R'.lst (r:=.seats) (xs:=(aG m.n).map fun i=>V.ref (g (.dn i))) trivial fun o e=>by
    have e:o=_:=e;rw[e,RF m k]
    congr 1
    apply bU
    intro j _;rw[st (.dn j) (fun h=>h)]
   rw[st .seats (fun h=>h)]at h1;exact bW.of h1
  ·rintro k x σ H' tt hx ⟨v1,v2,g',rfl,R',F',st⟩ hT;have hk:k<m.n:=by rw[<-hlen];exact(aw.mp hx).1
   have ex:x=V.ref (g (.dn k)):=by
    rw[cI,l4 hk]at hx;exact(ax hx).symm
   subst ex;obtain⟨oik,nk,sk⟩:=CH (oi (by omega)) k;refine zj (wa.of ak) rfl ?_;have R1:=R'.same (aP (.tup [.int ((k:Nat):Int),V.ref (g (.dn k))]) hT);have F1:Fr g m H g' (gO m k) (upd H' tt (.tup [.int ((k:Nat):Int),V.ref (g (.dn k))])):=F'.trans (Fr.same (aP _ hT));generalize upd H' tt (.tup [.int ((k:Nat):Int),V.ref (g (.dn k))])=H1 at R1 F1⊢;rw[mf];have rdk:(gO m k).round=m.round:=DF m k;generalize gO m k=mk at*;rw[<-st (.dn k) (fun h=>h),<-st .dr (fun h=>h)];obtain⟨d1,su1,YW,_⟩:=R1.gk;obtain⟨ds1,G5⟩:=R1.dn (i:=k) (by omega);walk_at"";refine⟨_,ds1,_,rfl,G5,rfl,?_⟩;walk_at"";refine⟨_,d1,_,rfl,YW,rfl,?_⟩;walk_at"";refine⟨g',mk,rfl,R1,oik.OL,by omega,oik.r15,fun H2 q R2 F2 hq uH=>?_⟩;walk_at"";intro x dx' YR aiQ j1;refine⟨x,dx',q,m.round*m.n+k,k,by rw[Int.natCast_add,Int.natCast_mul];rfl,ak,fun H3 h3 b3=>⟨rfl,?_⟩⟩;have s3:a7 H2 H3:=a7.made YR aiQ b3;have oq:Out g' (cP mk 4) q:=fun r hr e=>R1.out hq r (by rw[CV]at hr;exact hr) e
   have ox:Out g' (cP mk 4) x:=R2.out YR;have R3:=R2.same s3;have agp:Fv (cP mk 4):=by
    intro i hi x hx;rw[qm];rw[i7]at hx;exact oik.rN i (by rw[pM]at hi;exact hi) x hx
   have afw:(cP mk 4).pk k=none:=by rw[qm];exact oik.pkn k (ao _)
   have enum:m.round*m.n+k=numOf (cP mk 4) k:=by unfold numOf;rw[oG,pM,rdk,nk]
   rw[enum]at h3;have zq:=R1.zn hq;have R4:=R3.ZW (p:=⟨k,0,cH mk.sorts.length (cP mk 4).sorts.length⟩) agp afw ox oq (R2.zn YR) zq h3 (s3 _ _ uH);have F4:Fr g m H (sC g' k x q (cH mk.sorts.length (cP mk 4).sorts.length)) (eT (cP mk 4) k (some ⟨k,0,cH mk.sorts.length (cP mk 4).sorts.length⟩)) H3:=by
    have F3:Fr g m H g' (cP mk 4) H3:=F1.trans (F2.trans (Fr.same s3));refine⟨F3.out,fun r hr=>?_,F3.mono,F3.zs.trans (Si zq),fun b hb=>?_⟩
    ·by_cases a1:r=.pack k
     ·rw[a1,oI];exact .inr (.inl (F1.mono _ (F2.mono _ YR)))
     ·rw[nr a1];exact F3.new r (gv a1 hr)
    ·by_cases eb:b=q
     ·rw[eb];exact .inr (F1.mono _ hq)
     ·rw[show(sC g' k x q (cH mk.sorts.length (cP mk 4).sorts.length)).z b=g'.z b from cq eb]at hb;exact F3.zn b hb
   have le:=KO oik.r15;have ajv:=xX agp afw ⟨k,0,cH mk.sorts.length (cP mk 4).sorts.length⟩;have pz:sC g' k x q (cH mk.sorts.length (cP mk 4).sorts.length) (.dn k)=g' (.dn k):=Al _ _ _ _ _ _ (fun h=>h);have gpk:sC g' k x q (cH mk.sorts.length (cP mk 4).sorts.length) (.pack (⟨k,0,cH mk.sorts.length (cP mk 4).sorts.length⟩:bA).origin)=x:=oI _ _ _ _ _;have sbk:=oik.sb k;walk_at"";refine⟨sC g' k x q (cH mk.sorts.length (cP mk 4).sorts.length),_,k,⟨k,0,cH mk.sorts.length (cP mk 4).sorts.length⟩,by rw[pz,gpk];rfl,R4,ajv,?_,kG _ _ _,⟨?_,?_,?_⟩,fun H5 R5 F5=>?_⟩
   ·show k<(cP mk 4).n;rw[pM];omega
   ·show((cP mk 4).queues k).length<=100000;rw[i7,oik.qn k (ao _)];exact bK _
   ·show((cP mk 4).first k).length<=100000;rw[u9];omega
   ·show((cP mk 4).last k).length<=100000;rw[yA];omega
   ·exact⟨_,_,sC g' k x q (cH mk.sorts.length (cP mk 4).sorts.length),by rw[st .dr (fun h=>h)];rfl,R5,F4.trans F5,st.trans (Al _ _ _ _ _)⟩
  ·rintro σ H' ⟨v1,v2,g',rfl,R',F',st⟩;rw[hlen]at R' F';exact kk H' g' R' F' st
theorem SJ{α:Type}(f:Nat->List α):∀l:List Nat,(l.map fun j=>decide (0<(f j).length)).any id=!(l.all fun j=>(f j).isEmpty)
 |[]=>rfl
 |j::l=>by
  rw[bo,iR,dM,SJ f l,Bool.not_and]
  congr 1
  cases f j<;>rfl
def yb(m:DM):Bool:=(aG m.n).all fun i=>(m.queues i).isEmpty
def c9(m:DM):DM:={m with round:=m.round+1}
def lN(m:DM):DM:=if yb m=true then(if (c9 m).round=(c9 m).rounds then c9 m else gO (c9 m) m.n)else m
def aeV(ad:Ad):Sp:=fun vs H Q _=>E2 fun(g:Gh) (m:DM)=>A6 (vs=[.ref (g .dr)]) (Rep ad g m H) (yb m=true->Av m 0) (m.n<=8) (m.sorts.length<=5000) (m.round<=50/\∀H' g',Rep ad g' (lN m) H'->Fr g m H g' (lN m) H'->BQ g g'->Q .lC H')
theorem qh(T:Txt K mg ad):cF P w K mg base iC 5 ad.kL ad.kN ["self"] (aeV ad):=by
 refine T.iL.F.ok iw (by rintro _ _ _ _ ⟨g,m,rfl,_⟩;rfl) (fun _ A _ s H vs Q E hr h=>?_)
 ·obtain⟨g,m,rfl,R,oi,hn8,hs5,LQ,kk⟩:=h;obtain⟨dx,su,hd,_⟩:=R.gk;have Az:H (g .seats)=_:=R.lst (r:=.seats) trivial fun _ e=>e
  have hlen:((aG m.n).map fun i=>V.ref (g (.dn i))).length=m.n:=by rw[ae,ba]
  refine⟨_,(aC (i6 (kF (bH (adS rfl) (by rfl) T.ajC PyProof.Rows.boot_any (af (si rfl iw.nd (hJ (aQ (pv 0) rfl)) (gZ (N:=["self","seat"]) (sc:=aL iO) (own:=[("seat",1)]) (by decide+kernel)) (fun _ _ _ _ _=>(cv (i:=1) iw.nd rfl (be rfl) (jh rfl))) (fun _ _ _ _ _=>jO) (fun _ _ _ _ _=>(yy zc (bH (r:=ZD K) C8 (by rfl) T.jx aV (af (m9 (K':=K) rfl (pv 1) rfl) ay)) aS (fP _)))) ay)))
   (aJ ZH)
   eZ)
   (aC (Cy (pv 0) aS Qi)
   (aJ (i6 (oB (kF (gf (pv 0) T.a6 T.ia.m (oF T) hr.mono T.ia.b .nil bp)))
   (aJ (eu (gf (pv 0) T.a6 T.iK.m (pU T) hr.mono T.iK.b .nil bp)))
   eZ)))),?_⟩
  walk_at"";refine⟨_,_,dx,_,_,rfl,hd,T.a6,T.c7,rfl,?_⟩;refine⟨_,rfl,⟨_,bW.of Az⟩,fun D hD=>?_⟩;refine k5 (xs:=(aG m.n).map fun i=>V.ref (g (.dn i))) (fun i H'=>a7 H H'/\H' D=some (.lst (((aG i).map fun j=>decide (0<(m.queues j).length)).map V.bl))) ⟨aP _ hD,ak⟩ (fun i H' _ h=>bW.of (h.1 _ _ Az)) ?_ ?_
  ·rintro i x H' hx ⟨s1,mB⟩;have hi:i<m.n:=by rw[<-hlen];exact(aw.mp hx).1
   have ex:x=V.ref (g (.dn i)):=by
    rw[cI,l4 hi]at hx;exact(ax hx).symm
   subst ex;obtain⟨ds,hs⟩:=R.dn hi;have k7:=R.row hi;walk_at"";refine⟨rfl,?_⟩;walk_at"";refine oH ?_;walk_at"";refine⟨_,_,ds,_,_,rfl,s1 _ _ hs,T.cT,T.fh,rfl,?_⟩;walk_at"";refine⟨_,_,rfl,.inl (bW.of (s1 _ _ k7)),?_⟩;walk_at"";refine⟨_,mB,zg (by rw[ae,ae,ba];omega),a7.put hD s1,?_⟩;have e:decide ((0:Int)<((((m.queues i).map fun p=>V.ref (g (.pack p.origin))).length:Nat):Int))=decide (0<(m.queues i).length):=by
    rw[ae];exact decide_eq_decide.mpr (by omega)
   rw[e,dj,aF,aF];exact ak
  ·rintro H1 ⟨s1,hD1⟩;rw[hlen]at hD1;walk_at"";refine⟨D,_,rfl,bW.of hD1,?_⟩;have R1:=R.same s1;have F1:Fr g m H g m H1:=Fr.same s1;have eb:((aG m.n).map fun j=>decide (0<(m.queues j).length)).any id=!yb m:=by
    exact SJ m.queues _
   rw[eb];walk_at"";refine ik (fun c=>?_) fun c=>?_
   ·have c:yb m=false:=by simpa using c
    walk_at"";have e:lN m=m:=by unfold lN;rw[c,if_neg (by decide)]
    rw[e]at kk;exact kk H1 g R1 F1 (BQ.refl _)
   ·have c:yb m=true:=by simpa using c
    obtain⟨d1,su1,YW,aht⟩:=R1.gk;walk_at"";refine⟨_,_,d1,_,_,rfl,YW,T.a6,T.eU,rfl,?_⟩;walk_at"";refine⟨_,_,rfl,rfl,d1,_,YW,(by show 6<1000;decide),?_⟩;have ef:pL "round_number" (V.int (((m.round:Nat):Int)+1)) (YZ g su1 m)=YZ g su1 (c9 m):=rfl;rw[ef];have o:=oi c;have R2:Rep ad g (c9 m) (upd H1 (g .dr) (.ins ad.dC d1 (YZ g su1 (c9 m)))):=by
     refine R1.set (m':=c9 m) .dr _ trivial ⟨d1,su1,rfl,aht⟩ (fun r h=>by cases r<;>exact h) fun r hr hl u hu=>?_
     cases r with
     |pack o'=>
      have YT:(m.pk o').isSome=true:=hl;rw[o.pkn o' (bK _)]at YT;cases YT
     |dr=>exact absurd rfl hr
     |_=>exact hu
    have F2:Fr g m H g (c9 m) (upd H1 (g .dr) (.ins ad.dC d1 (YZ g su1 (c9 m)))):=F1.trans (Fr.set (ad:=ad) .dr _ trivial fun r h=>by cases r<;>exact h);generalize upd H1 (g .dr) (.ins ad.dC d1 (YZ g su1 (c9 m)))=H2 at R2 F2⊢;obtain⟨d2,su2,hd2,_⟩:=R2.gk;walk_at"";refine⟨_,d2,_,rfl,hd2,rfl,?_⟩;walk_at"";refine⟨g,c9 m,rfl,R2,?_⟩;walk_at"";have e:lN m=if (c9 m).round=(c9 m).rounds then c9 m else gO (c9 m) m.n:=by unfold lN;rw[c,if_pos rfl]
    rw[e]at kk;refine ik (fun c2=>?_) fun c2=>?_
    ·have c2:¬(c9 m).round=(c9 m).rounds:=by simpa using c2
     rw[if_neg c2]at kk;walk_at"";refine⟨_,d2,_,rfl,hd2,rfl,?_⟩;walk_at"";refine⟨g,c9 m,rfl,R2,(fun _=>⟨⟨o.OL.s4,o.OL.p4,o.OL.r4,o.OL.ne,o.OL.pl⟩,o.rN,o.pkn,o.qn,o.sb,o.r15⟩),hn8,hs5,(by show m.round+1<=100;omega),fun H3 g3 R3 F3 st=>?_⟩;exact kk H3 g3 R3 (F2.trans F3) st
    ·have c2:(c9 m).round=(c9 m).rounds:=by simpa using c2
     rw[if_pos c2]at kk;walk_at"";exact kk H2 g R2 F2 (BQ.refl _)
def fi(m:DM)(i:Nat)(l:List Nat):DM:={m with pools:=fun j=>if j=i then m.pools i++l else m.pools j}
theorem Gs(m:DM)(i:Nat)(l:List Nat):(fi m i l).pools i=m.pools i++l:=if_pos rfl
theorem Gq{m:DM}{i j:Nat}{l:List Nat}(h:j≠i):(fi m i l).pools j=m.pools j:=if_neg h
theorem MT{ad:Ad}{g:Gh}{m:DM}{H:Hp}(R:Rep ad g m H){i:Nat}(hi:i<m.n)(l:List Nat):Rep ad g (fi m i l) (upd H (g (.pool i)) (.lst ((m.pools i++l).map nV))):=by
 refine R.set (m':=fi m i l) (.pool i) _ hi ?_ (fun r h=>by cases r<;>exact h) fun r hr hl u hu=>?_
 ·show HO.lst _=HO.lst (((fi m i l).pools i).map _);rw[Gs]
 ·cases r with
  |pool j=>
   have ne:j≠i:=fun e=>hr (by rw[e])
   show u=HO.lst (((fi m i l).pools j).map _);rw[Gq ne];exact hu
  |_=>exact hu
theorem vb{m:DM}{o:Nat}{p p':bA}(hp:m.pk o=some p)(r:Role)(hl:iG (eT m o (some p')) r):iG m r:=by
 by_cases e:r=.pack o
 ·rw[e];show(m.pk o).isSome=true;rw[hp];rfl
 ·exact gv e hl
theorem Rep.ZC{ad:Ad}{g:Gh}{m:DM}{H:Hp}(R:Rep ad g m H){o:Nat}{p p':bA}(hp:m.pk o=some p){q dx:Addr}(hq:Out g m q)(hQ:H q=some (.lst (p'.cards.map nV))):
  Rep ad (kr g q (.lst (p'.cards.map nV))) (eT m o (some p')) (upd H (g (.pack o)) (.ins ad.jU dx (PL (numOf m o) p' q))):=by
 have lpo:iG m (.pack o):=by show(m.pk o).isSome=true;rw[hp];rfl
 obtain⟨_,R'⟩:=R.freeze hQ hq;exact R'.set (m':=eT m o (some p')) (.pack o) _ lpo ⟨p',dx,q,kG _ _ _,rfl,AG _ _ _⟩ (fun r hl=>vb hp r hl) fun r hr hl u hu=>vg hr hu
theorem Rep.acq{ad:Ad}{g:Gh}{m:DM}{H:Hp}(R:Rep ad g m H){o:Nat}{p p':bA}(hp:m.pk o=some p){c:Addr}(hc:g.z c=some (.lst (p'.cards.map nV))){dx:Addr}:Rep ad g (eT m o (some p')) (upd H (g (.pack o)) (.ins ad.jU dx (PL (numOf m o) p' c))):=by
 have lpo:iG m (.pack o):=by show(m.pk o).isSome=true;rw[hp];rfl
 exact R.set (m':=eT m o (some p')) (.pack o) _ lpo ⟨p',dx,c,kG _ _ _,rfl,hc⟩ (fun r hl=>vb hp r hl) fun r hr hl u hu=>vg hr hu
theorem CW{m:DM}{o:Nat}{r:Role}(hl:iG (eT m o none) r):r≠ .pack o:=by
 intro e;rw[e]at hl;have YT:((eT m o none).pk o).isSome=true:=hl;rw[kG]at YT;cases YT
theorem Rep.drop{ad:Ad}{g:Gh}{m:DM}{H:Hp}(R:Rep ad g m H)(o:Nat):Rep ad g (eT m o none) H:=by
 have old:∀r,iG (eT m o none) r->iG m r:=fun r h=>gv (CW h) h
 refine⟨fun r r' h h'=>R.inj r r' (old r h) (old r' h'),fun r h=>?_,R.zs,fun b u e r h=>R.zo b u e r (old r h)⟩;obtain⟨u,h1,h2⟩:=R.at_ r (old r h);exact⟨u,h1,vg (CW h) h2⟩
theorem Fr.drop(g:Gh)(m:DM)(H:Hp)(o:Nat):Fr g m H g (eT m o none) H:=⟨fun b u e _=>e,fun r h=>.inl ⟨gv (CW h) h,rfl⟩,fun b e=>e,a7.refl _,fun _ h=>.inl h⟩
theorem Fr.freeze{g:Gh}{m:DM}{H:Hp}{a:Addr}{o:HO}(s:a7 g.z (kr g a o).z)(ha:H a=none){H':Hp}(sm:a7 H H'):Fr g m H (kr g a o) m H':=by
 refine⟨fun b u e _=>sm _ _ e,fun r h=>.inl ⟨h,rfl⟩,fun b e=>sm.free e,s,fun b hb=>?_⟩;by_cases e:b=a
 ·rw[e];exact .inr ha
 ·rw[show(kr g a o).z b=g.z b from cq e]at hb;exact .inl hb
theorem ZI{X:Cx}{K':aq}{es:List de}{k:Nat}{t:Y0}{n:Nat}{pos:sY}(hK:X.K=K')(hc:X.calm=true)(h:PGs X es t)(hn:(assignEach es X.env).length=n)(hs:(assignEach es X.env).findIdx? (·.1)=none):PG X (.Tuple es k pos) (adI K' n t):=by
 subst hK;exact tI hc h hn hs
def ml(cs pl:List Nat)(n:Nat):List Nat:=((aG n).filter fun k=>!pl.contains k).map fun k=>cs.getD k 0
theorem DR(cs pl:List Nat)(n:Nat):ml cs pl (n+1)=ml cs pl n++(if pl.contains n=true then []else [cs.getD n 0]):=by
 unfold ml;rw[dj,Cb,aF]
 congr 1
 rw[gW];cases pl.contains n<;>rfl
theorem Qb(cs pl:List Nat)(n:Nat):(ml cs pl n).length<=n:=by
 unfold ml;rw[ae];have:=kq (fun k=>!pl.contains k) (aG n);rw[ba]at this;exact this
theorem Z7(k:Nat)(pl:List Nat):inV (.int (k:Int)) (pl.map nV)=pl.contains k:=by
 have:pl.map nV=(pl.map fun n:Nat=>(n:Int)).map V.int:=by rw[cO];rfl
 rw[this,Sa,aY,aY];apply decide_eq_decide.mpr;rw[bh];constructor
 ·rintro⟨x,hx,e⟩;have:x=k:=by omega
  rw[<-this];exact hx
 ·intro h;exact⟨k,h,rfl⟩
theorem UJ(pl:List Nat):(pl.map nV).all zk=true:=by
 rw[rK,bD];intro _ _;rfl
def kE(p:bA)(pl:List Nat):bA:=⟨p.origin,p.visits,ml p.cards pl p.cards.length⟩
def kh(p:bA)(pl:List Nat):bA:=⟨p.origin,p.visits+1,ml p.cards pl p.cards.length⟩
def Fu(m:DM)(x:Nat×List Nat):DM:={m with picks:=m.picks++[x]}
def take1(m:DM)(i:Nat)(p:bA)(r:List bA)(pl:List Nat):DM:=Fu (eT (fi (rel m i r) i (Ma.got p.cards pl)) p.origin (some (kE p pl))) (i,pl)
def gN(m:DM)(i:Nat)(p:bA)(r:List bA)(pl:List Nat):DM:=
 if (ml p.cards pl p.cards.length).isEmpty=true then eT (take1 m i p r pl) p.origin none
 else recv (eT (take1 m i p r pl) p.origin (some (kh p pl))) (ON m.n m.round i) (kh p pl)
theorem Ws(m:DM)(i:Nat)(r:List bA):(rel m i r).n=m.n:=by unfold rel;split<;>rfl
theorem Px(m:DM)(i:Nat)(r:List bA):(rel m i r).pk=m.pk:=by unfold rel;split<;>rfl
theorem IM(m:DM)(i:Nat)(r:List bA):(rel m i r).pools=m.pools:=by unfold rel;split<;>rfl
theorem IP(m:DM)(i:Nat)(r:List bA):(rel m i r).picks=m.picks:=by unfold rel;split<;>rfl
theorem TN(m:DM)(i:Nat)(r:List bA):(rel m i r).round=m.round:=by unfold rel;split<;>rfl
theorem Gj(m:DM)(i:Nat)(r:List bA):(rel m i r).queues=(kW m i r).queues:=by
 unfold rel;split
 ·rfl
 ·rfl
theorem Zy(m:DM)(i:Nat)(r:List bA)(j:Nat):((rel m i r).first j).length<=(m.first j).length+1/\((rel m i r).last j).length<=(m.last j).length+1:=by
 unfold rel;split
 ·exact⟨iV _,iV _⟩
 ·exact GW _ _ _ _
theorem aaO{m:DM}{j:Nat}(hj:j<m.n)(h:m.queues j≠ []):yb m=false:=by
 unfold yb;rw[Eo];refine⟨j,bG.mpr hj,?_⟩;cases e:m.queues j with
 |nil=>exact absurd e h
 |cons x r=>exact fun z=>by cases z
theorem UN{m:DM}{j:Nat}(hj:j<m.n)(p:bA):lN (recv m j p)=recv m j p:=by
 unfold lN;rw[aaO (j:=j) (by rw[Cs];exact hj) (by rw[mw,jq];simp),if_neg (by decide)]
def ab7(ad:Ad):Sp:=fun vs H Q _=>E5 fun(g:Gh) (m:DM) (i:Nat) (p:bA) (r:List bA)=>E2 fun(a:Addr) (pl:List Nat)=>A8 (vs=[.ref (g .dr),.int (i:Int),.ref a]) (Rep ad g m H) (Fv m) (i<m.n) (m.queues i=p::r) (∀j,j<m.n->(m.queues j).length<=1000/\(m.first j).length<=1000/\(m.last j).length<=1000) (g.z a=some (.lst (pl.map nV))) (A8 (m.picks.length<=1000) (m.round<=50) (pl.length<=1000) (∀k∈pl,k<p.cards.length) (p.cards.length<=1000) ((m.pools i).length<=100000) (∀j,j<m.n->∀x∈(kW m i r).queues j,x.origin≠p.origin) (A4 (yb (gN m i p r pl)=true->Av (gN m i p r pl) 0) (m.n<=8) (m.sorts.length<=5000) (∀H' g' q,Rep ad g' (lN (gN m i p r pl)) H'->Fr g m H g' (lN (gN m i p r pl)) H'->g' .dr=g .dr->H q=none->H' q=some (.lst ((Ma.got p.cards pl).map nV))->Out g' (lN (gN m i p r pl)) q->Q (.ref q) H')))
theorem oU(T:Txt K mg ad):cF P w K mg base iC 6 ad.BA ad.BH ["self","i","places"] (ab7 ad):=by
 refine T.ir.F.ok iA (by rintro _ _ _ _ ⟨g,m,i,p,r,a,pl,rfl,_⟩;rfl) (fun _ A _ s H vs Q E hr h=>?_)
 ·obtain⟨g,m,i,p,r,a,pl,rfl,R,rN,hi,hq,sm,za,aag,LQ,tQ,lM,aiW,aks,hfl,oi,hn8,hs5,kk⟩:=h;obtain⟨dx,su,hd,_⟩:=R.gk;have ha:=R.zs _ _ za;have oa:=R.zo _ _ za;have Az:H (g .seats)=_:=R.lst (r:=.seats) trivial fun _ e=>e
  obtain⟨ds,hs⟩:=R.dn hi;have Jr:m.pk p.origin=some p:=rN i hi p (by rw[hq];exact ah);refine⟨_,(aC (cf (i:=3) iA.nd rfl (be rfl) (eB cj (aQ (pv 0) rfl) (pv 1) (fun _ _=>rfl)))
   (aC (cf (i:=4) iA.nd rfl (jh rfl) (gf (pv 3) T.cT T.qF.m (ED T) hr.mono T.qF.b .nil bp))
   (aC (Gn (i:=5) rfl iA.nd rfl rfl (J7 rfl rfl rfl (by decide+kernel)) (hJ (pv 2)) (gZ (N:=["self","i","places","seat","pack","taken","place","card"]) (sc:=aL qc) (own:=[("place",6)]) (by decide+kernel)) (fun _ _ _ _ _=>(cv (i:=6) iA.nd rfl (be rfl) (jh rfl))) (fun _ _ _ _ _=>jO) (fun _ _ _ _ _=>(eB (r:=MQ K) cj (m9 (K':=K) rfl (pv 4) rfl) (pv 6) (fun _ _=>rfl))))
   (aC (eu (lr a9 dH dG kZ (aQ (pv 3) rfl) (af (pv 5) ay)))
   (aC (eR (pv 4) (si rfl iA.nd (A7 rfl T.mr (af (aQ (pv 4) rfl) ay)) (gZ (N:=["self","i","places","seat","pack","taken","place","card"]) (sc:=aL qc) (own:=[("place",6),("card",7)]) (by decide+kernel)) (fun _ _ _ _ _=>(ZI (K':=K) (n:=2) rfl rfl (fR (cv (i:=6) iA.nd rfl (be rfl) (jh rfl)) (fR (cv (i:=7) iA.nd rfl (be rfl) (jh rfl)) oT)) rfl rfl)) (fun _ _ _ _ _=>(Rx (eP (r:=rIn K true) Bb (pv 6) (pv 2) (by with_unfolding_all rfl)))) (fun _ _ _ _ _=>(pv 7))) rfl)
   (aC (eu (lr a9 cK cJ ju (aQ (pv 0) rfl) (af (acB (af (pv 1) (af (pv 2) ay))) ay)))
   (aC (i6 (eP zc (bH bg (by rfl) T.jx aV (af (aQ (pv 4) rfl) ay)) aS (fP _))
   (aC (Cy (pv 4) aS Qi)
   (aJ (eu (gg (eB cj (aQ (pv 0) rfl) (gg (pv 0) T.a6 T.mT.m (Aa T) hr.mono T.mT.b .nil bp (af (pv 1) ay)) (fun _ _=>rfl)) T.cT T.ku.m (vE T) hr.mono T.ku.b .nil bp (af (pv 4) ay)))))
   (aJ (eu (gf (pv 0) T.a6 T.iL.m (qh T) hr.mono T.iL.b .nil bp))))
   (aJ (bj (pv 5)))))))))),?_⟩
  walk_at"";refine⟨_,_,dx,_,_,rfl,hd,T.a6,T.c7,rfl,?_⟩;walk_at"";refine eO (bW.of Az) (uC hi) ?_;walk_at"";refine⟨_,ds,_,rfl,hs,rfl,?_⟩;walk_at"";refine⟨g,m,i,p,r,rfl,R,rN,hi,hq,⟨by have:=sm i hi;omega,by have:=sm i hi;omega,by have:=sm i hi;omega⟩,fun H1 R1 F1=>?_⟩;have ha1:=F1.out _ _ ha oa;have oa1:=F1.outs ha oa;have afx:(rel m i r).pk p.origin=some p:=by rw[Px];exact Jr
  have Vo:i<(rel m i r).n:=by rw[Ws];exact hi
  obtain⟨dp1,c1,zh,hc1,_⟩:=R1.pack afx;obtain⟨ds1,G5⟩:=R1.dn Vo;walk_at"";refine⟨a,rfl,⟨_,bW.of ha1⟩,fun D hD=>?_⟩;refine k5 (xs:=pl.map nV) (fun j H'=>a7 H1 H'/\H' D=some (.lst ((Ma.got p.cards (pl.take j)).map nV))) ⟨aP _ hD,ak⟩ (fun j H' _ h=>bW.of (h.1 _ _ ha1)) ?_ ?_
  ·rintro j x H' hx ⟨s1,mB⟩;obtain⟨k,hk,rfl⟩:=get_map hx;have hkl:=lM k (bC hk);walk_at"";refine⟨rfl,?_⟩;walk_at"";refine oH ?_;walk_at"";refine⟨_,_,dp1,_,_,rfl,s1 _ _ zh,T.fk,T.eA,rfl,?_⟩;walk_at"";refine eO (bW.of (s1 _ _ hc1)) (Lx hkl) ?_;refine⟨_,mB,zg ?_,a7.put hD s1,?_⟩
   ·unfold Ma.got;rw[ae,ae,bt];omega
   ·unfold Ma.got;rw[take_snoc hk,aF,aF];exact ak
  ·rintro H2 ⟨s2,hD2⟩;rw[ae,bJ]at hD2;have hD0:H D=none:=F1.mono _ hD;have oD1:Out g (rel m i r) D:=R1.out hD;have R2:=R1.same s2;have F2:Fr g m H g (rel m i r) H2:=F1.trans (Fr.same s2);have ac3:=R2.pool Vo;rw[IM]at ac3;walk_at"";refine⟨_,_,ds1,_,_,rfl,s2 _ _ G5,T.cT,T.my,rfl,?_⟩;refine⟨.inl ⟨rfl,_,bW.of ac3⟩,?_⟩;walk_at"";refine Bp ac3 hD2 (YO ?_) ?_
   ·unfold Ma.got;rw[ae,ae,ae];omega
   have R3:=MT R2 Vo (Ma.got p.cards pl);rw[IM,aF]at R3;have F3:Fr g m H g (fi (rel m i r) i (Ma.got p.cards pl)) (upd H2 (g (.pool i)) (.lst ((m.pools i).map nV++(Ma.got p.cards pl).map nV))):=F2.trans (Fr.set (ad:=ad) (.pool i) _ Vo fun r h=>by cases r<;>exact h);have hD3:upd H2 (g (.pool i)) (.lst ((m.pools i).map nV++(Ma.got p.cards pl).map nV)) D=some (.lst ((Ma.got p.cards pl).map nV)):=aX (fun e=>oD1 (.pool i) Vo e.symm) hD2;have ha3:upd H2 (g (.pool i)) (.lst ((m.pools i).map nV++(Ma.got p.cards pl).map nV)) a=some (.lst (pl.map nV)):=aX (fun e=>oa1 (.pool i) Vo e.symm) (s2 _ _ ha1);generalize upd H2 (g (.pool i)) (.lst ((m.pools i).map nV++(Ma.got p.cards pl).map nV))=H3 at R3 F3 hD3 ha3⊢;have aaf:(fi (rel m i r) i (Ma.got p.cards pl)).pk p.origin=some p:=afx;have n3:(fi (rel m i r) i (Ma.got p.cards pl)).n=m.n:=Ws m i r;have q3:(fi (rel m i r) i (Ma.got p.cards pl)).queues=(kW m i r).queues:=Gj m i r;have oD3:Out g (fi (rel m i r) i (Ma.got p.cards pl)) D:=fun r h e=>oD1 r (by cases r<;>exact h) e
   have oa3:Out g (fi (rel m i r) i (Ma.got p.cards pl)) a:=fun r h e=>oa1 r (by cases r<;>exact h) e
   have Z8:take1 m i p r pl=Fu (eT (fi (rel m i r) i (Ma.got p.cards pl)) p.origin (some (kE p pl))) (i,pl):=rfl;have pk3:(fi (rel m i r) i (Ma.got p.cards pl)).pk=m.pk:=Px m i r;have aco:(fi (rel m i r) i (Ma.got p.cards pl)).round=m.round:=TN m i r;have ack:(fi (rel m i r) i (Ma.got p.cards pl)).sorts=m.sorts:=by show(rel m i r).sorts=m.sorts;unfold rel;split<;>rfl
   have ah2:∀j,((fi (rel m i r) i (Ma.got p.cards pl)).first j).length<=(m.first j).length+1/\((fi (rel m i r) i (Ma.got p.cards pl)).last j).length<=(m.last j).length+1:=fun j=>Zy m i r j
   have acx:(fi (rel m i r) i (Ma.got p.cards pl)).picks=m.picks:=IP m i r;generalize fi (rel m i r) i (Ma.got p.cards pl)=m3 at*;obtain⟨dp3,c3,NB,hc3,_⟩:=R3.pack aaf;walk_at"";refine⟨_,_,dp3,_,_,rfl,NB,T.fk,T.eA,rfl,?_⟩;walk_at"";refine⟨_,_,rfl,bW.of hc3,fun L hL=>?_⟩;refine Z4 (xs:=p.cards.map nV) (fun j H'=>a7 H3 H'/\H' L=some (.lst ((ml p.cards pl j).map nV))) ⟨aP _ hL,ak⟩ (fun j H' _ h=>bW.of (h.1 _ _ hc3)) ?_ ?_
   ·rintro j x H' tt hx ⟨s4,hL'⟩ hT;obtain⟨c,hcj,rfl⟩:=get_map hx;have UA:p.cards.getD j 0=c:=by rw[aW,hcj];rfl
    refine zj (wa.of ak) rfl ?_;walk_at"";refine⟨rfl,?_⟩;walk_at"";refine⟨a,_,rfl,.inl (bW.of (bq hT (s4 _ _ ha3))),rfl,UJ _,?_⟩;walk_at"";rw[if_pos rfl,Z7];refine ik (fun cc=>?_) fun cc=>?_
    ·have cc:pl.contains j=false:=by simpa using cc
     walk_at"";refine⟨_,bq hT hL',zg ?_,a7.put hL (s4.trans (aP _ hT)),?_⟩
     ·rw[ae];have:=Qb p.cards pl j;have:=(aw.mp hcj).1;omega
     ·rw[DR,cc,if_neg (by decide),aF,UA];exact ak
    ·have cc:pl.contains j=true:=by simpa using cc
     refine⟨s4.trans (aP _ hT),?_⟩;rw[DR,cc,if_pos rfl,cV];exact bq hT hL'
   ·rintro H4 ⟨s4,hL4⟩;rw[ae]at hL4;have oL:Out g m3 L:=R3.out hL;have R4:=R3.same s4;walk_at"";refine⟨_,_,dp3,_,rfl,s4 _ _ NB,T.fk,T.eA,(by show 4<1000;decide),?_⟩;have ef:pL "cards" (V.ref L) (PL (numOf m3 p.origin) p c3)=PL (numOf m3 p.origin) (kE p pl) L:=rfl;rw[ef];have R5:=R4.ZC (p':=kE p pl) (dx:=dp3) aaf oL hL4;have lp3:iG m3 (.pack p.origin):=by show(m3.pk p.origin).isSome=true;rw[aaf];rfl
    have P5:Fr g m3 H3 (kr g L (.lst ((kE p pl).cards.map nV))) (eT m3 p.origin (some (kE p pl))) (upd H4 (g (.pack p.origin)) (.ins ad.jU dp3 (PL (numOf m3 p.origin) (kE p pl) L))):=by
     have f1:Fr g m3 H3 (kr g L (.lst ((kE p pl).cards.map nV))) m3 H4:=Fr.freeze (R4.freeze hL4 oL).1 hL s4;exact f1.trans (Fr.set (ad:=ad) (g:=kr g L (.lst ((kE p pl).cards.map nV))) (.pack p.origin) _ lp3 fun r h=>vb aaf r h)
    generalize upd H4 (g (.pack p.origin)) (.ins ad.jU dp3 (PL (numOf m3 p.origin) (kE p pl) L))=H5 at R5 P5⊢;have gne:∀rr,kr g L (.lst ((kE p pl).cards.map nV)) rr=g rr:=fun rr=>rfl
    generalize kr g L (.lst ((kE p pl).cards.map nV))=g4 at R5 P5 gne⊢;rw[<-gne .dr,<-gne (.pack p.origin)];obtain⟨d5,su5,hd5,_⟩:=R5.gk;obtain⟨as,afz,ae8⟩:=R5.picks;walk_at"";refine⟨_,_,d5,_,_,rfl,hd5,T.a6,T.je,rfl,?_⟩;refine⟨.inl ⟨rfl,_,bW.of afz⟩,?_⟩;walk_at"";refine⟨by show 2<=sizeLine;decide,fun tu htu=>?_⟩;walk_at"";have al6:as.length<=1000:=by
     have:=Paired.len ae8;rw[this];show m3.picks.length<=1000;rw[acx];exact aag
    refine xx (bq htu afz) (zg (by rw[ae];omega)) ?_;have otu:=R5.out htu;have s5:=aP (.tup [V.int (i:Int),V.ref a]) htu;have ht5:upd H5 tu (.tup [V.int (i:Int),V.ref a]) tu=some (.tup [V.int (i:Int),V.ref a]):=ak;obtain⟨z5,R5'⟩:=(R5.same s5).freeze ht5 otu;have P5':Fr g m3 H3 (kr g4 tu (.tup [V.int (i:Int),V.ref a])) (eT m3 p.origin (some (kE p pl))) (upd H5 tu (.tup [V.int (i:Int),V.ref a])):=P5.trans (Fr.freeze z5 htu s5);have za5:(kr g4 tu (.tup [V.int (i:Int),V.ref a])).z a=some (.lst (pl.map nV)):=P5'.zs _ _ za;have zt5:(kr g4 tu (.tup [V.int (i:Int),V.ref a])).z tu=some (.tup [V.int (i:Int),V.ref a]):=AG _ _ _;have af0:∀rr,kr g4 tu (.tup [V.int (i:Int),V.ref a]) rr=g rr:=fun rr=>gne rr
    have aaq:∀rr,kr g4 tu (.tup [V.int (i:Int),V.ref a]) rr=g4 rr:=fun rr=>rfl
    have abf:=ae8.same z5;generalize upd H5 tu (.tup [V.int (i:Int),V.ref a])=H5' at R5' P5'⊢;generalize kr g4 tu (.tup [V.int (i:Int),V.ref a])=g5 at R5' P5' za5 zt5 af0 aaq abf⊢;rw[<-aaq .picks,<-aaq .dr,<-aaq (.pack p.origin)];have edr:g5 .dr=g .dr:=af0 .dr;have R6:Rep ad g5 (take1 m i p r pl) (upd H5' (g5 .picks) (.lst (as.map V.ref++[V.ref tu]))):=by
     rw[Z8];refine R5'.set (m':=Fu (eT m3 p.origin (some (kE p pl))) (i,pl)) .picks _ trivial ⟨as++[tu],by rw[aF];rfl,?_⟩ (fun r h=>by cases r<;>exact h) fun r hr hl u hu=>?_
     ·show kj g5.z (as++[tu]) (m3.picks++[(i,pl)]);have go:∀ {as:List Addr} {l:NL},kj g5.z as l->kj g5.z (as++[tu]) (l++[(i,pl)]):=by
       intro as l h;induction h with
       |nil=>exact .cons ⟨a,zt5,za5⟩ .nil
       |cons r _ ih=>exact .cons r ih
      exact go abf
     ·cases r<;>first|exact hu|exact absurd rfl hr
    have P6:Fr g m3 H3 g5 (take1 m i p r pl) (upd H5' (g5 .picks) (.lst (as.map V.ref++[V.ref tu]))):=by
     rw[Z8];exact P5'.trans (Fr.set (ad:=ad) .picks _ trivial fun r h=>by cases r<;>exact h)
    generalize upd H5' (g5 .picks) (.lst (as.map V.ref++[V.ref tu]))=H6 at R6 P6⊢;have aae:(take1 m i p r pl).pk p.origin=some (kE p pl):=by rw[Z8];exact kG _ _ _
    obtain⟨d6,c6,hp6,hc6,zc6⟩:=R6.pack aae;have n6:(take1 m i p r pl).n=m.n:=by rw[Z8];exact n3
    have q6:(take1 m i p r pl).queues=(kW m i r).queues:=by rw[Z8];exact q3
    have Wo:(take1 m i p r pl).round=m.round:=by rw[Z8];exact aco
    have ah1:∀j,((take1 m i p r pl).first j).length<=(m.first j).length+1/\((take1 m i p r pl).last j).length<=(m.last j).length+1:=by rw[Z8];exact ah2
    have V8:(take1 m i p r pl).sorts=m.sorts:=by rw[Z8];exact ack
    have htk:gN m i p r pl=if (ml p.cards pl p.cards.length).isEmpty=true then eT (take1 m i p r pl) p.origin none else recv (eT (take1 m i p r pl) p.origin (some (kh p pl))) (ON m.n m.round i) (kh p pl):=rfl
    have aju:∀j,j<m.n->∀x∈(kW m i r).queues j,(take1 m i p r pl).pk x.origin=some x:=by
     intro j hj x hx;rw[Z8];show(eT m3 p.origin (some (kE p pl))).pk x.origin=some x;rw[jY (hfl j hj x hx),pk3];exact Ho rN hq j hj x hx
    generalize take1 m i p r pl=m6 at*;walk_at"";refine⟨_,_,d6,_,_,rfl,hp6,T.fk,T.eA,rfl,?_⟩;walk_at"";refine⟨_,_,rfl,.inl (bW.of hc6),?_⟩;walk_at"";rw[ae];refine ik (fun c=>?_) fun c=>?_
    ·have c:(0:Int)<(((kE p pl).cards.length:Nat):Int):=of_decide_eq_true c;have j1:¬(ml p.cards pl p.cards.length).isEmpty=true:=by
      intro e;have e2:(kE p pl).cards=[]:=fZ.mp e;rw[e2]at c;exact absurd c (by decide)
     rw[if_neg j1]at htk;walk_at"";refine⟨_,_,d6,_,_,rfl,hp6,T.fk,T.oW,rfl,?_⟩;walk_at"";refine⟨_,_,rfl,rfl,d6,_,hp6,(by show 4<1000;decide),?_⟩;have ef7:pL "passed" (V.int ((((kE p pl).visits:Nat):Int)+1)) (PL (numOf m6 p.origin) (kE p pl) c6)=PL (numOf m6 p.origin) (kh p pl) c6:=rfl;rw[ef7];have R7:=R6.acq (p':=kh p pl) (dx:=d6) aae zc6;have lp6:iG m6 (.pack p.origin):=by show(m6.pk p.origin).isSome=true;rw[aae];rfl
     have P7:Fr g m3 H3 g5 (eT m6 p.origin (some (kh p pl))) (upd H6 (g5 (.pack p.origin)) (.ins ad.jU d6 (PL (numOf m6 p.origin) (kh p pl) c6))):=P6.trans (Fr.set (ad:=ad) (.pack p.origin) _ lp6 fun r h=>vb aae r h);generalize upd H6 (g5 (.pack p.origin)) (.ins ad.jU d6 (PL (numOf m6 p.origin) (kh p pl) c6))=H7 at R7 P7⊢;have n7:(eT m6 p.origin (some (kh p pl))).n=m.n:=n6;have acn:(eT m6 p.origin (some (kh p pl))).round=m.round:=Wo;have q7:(eT m6 p.origin (some (kh p pl))).queues=(kW m i r).queues:=q6;have s7:(eT m6 p.origin (some (kh p pl))).sorts=m.sorts:=V8;have aiq:(eT m6 p.origin (some (kh p pl))).pk (kh p pl).origin=some (kh p pl):=kG _ _ _;have ah0:∀j,((eT m6 p.origin (some (kh p pl))).first j).length<=(m.first j).length+1/\((eT m6 p.origin (some (kh p pl))).last j).length<=(m.last j).length+1:=ah1;have ajt:Fv (eT m6 p.origin (some (kh p pl))):=by
      intro j hj x hx;rw[n7]at hj;rw[q7]at hx;rw[jY (hfl j hj x hx)];exact aju j hj x hx
     generalize eT m6 p.origin (some (kh p pl))=m7 at*;obtain⟨d7,su7,hd7,_⟩:=R7.gk;have aij:H7 (g5 .seats)=_:=R7.lst (r:=.seats) trivial fun _ e=>e
     have hnb:ON m.n m.round i<m.n:=by unfold ON;split<;>exact iX _ (by omega)
     have aaj:ON m.n m.round i<m7.n:=by rw[n7];exact hnb
     obtain⟨ds7,hs7⟩:=R7.dn aaj;walk_at"";refine⟨_,_,d7,_,_,rfl,hd7,T.a6,T.c7,rfl,?_⟩;walk_at"";refine⟨_,d7,_,rfl,hd7,rfl,?_⟩;walk_at"";refine⟨g5,m7,i,rfl,R7,by omega,?_⟩;rw[n7,acn];refine eO (bW.of aij) (uC aaj) ?_;refine⟨_,ds7,_,rfl,hs7,rfl,?_⟩;walk_at"";have smn:=sm _ hnb;have smi:=sm i hi;have l7:=ah0 (ON m.n m.round i);have ql7:(m7.queues (ON m.n m.round i)).length<=1000:=by
      rw[q7];by_cases e:ON m.n m.round i=i
      ·rw[e,jq];have:=smi.1;rw[hq,az]at this;omega
      ·rw[m8 e];exact smn.1
     refine⟨g5,m7,ON m.n m.round i,kh p pl,rfl,R7,ajt,aaj,aiq,⟨by omega,by omega,by omega⟩,fun H8 R8 F8=>?_⟩;have P8:=P7.trans F8;rw[<-htk]at R8 P8;have eE:lN (gN m i p r pl)=gN m i p r pl:=by rw[htk];exact UN aaj _
     rw[<-eE]at R8 P8;walk_at"";exact kk H8 g5 D R8 (F3.trans P8) edr hD0 (P8.out _ _ hD3 oD3) (P8.outs hD3 oD3)
    ·have j1:(ml p.cards pl p.cards.length).isEmpty=true:=by
      rw[fZ,<-jH];have c:¬(0:Int)<(((kE p pl).cards.length:Nat):Int):=by simpa using c
      have:(kE p pl).cards.length=(ml p.cards pl p.cards.length).length:=rfl;omega
     rw[if_pos j1]at htk;have R8:=R6.drop p.origin;have P8:=P6.trans (Fr.drop g5 m6 H6 p.origin);have n8:(gN m i p r pl).n=m.n:=by rw[htk];exact n6
     have s8:(gN m i p r pl).sorts=m.sorts:=by rw[htk];exact V8
     rw[<-htk]at R8 P8;walk_at"";obtain⟨d8,su8,hd8,_⟩:=R8.gk;walk_at"";refine⟨_,d8,_,rfl,hd8,rfl,?_⟩;walk_at"";refine⟨g5,_,rfl,R8,oi,by rw[n8];exact hn8,by rw[s8];exact hs5,by rw[htk];show m6.round<=50;rw[Wo];exact LQ,fun H9 g9 R9 F9 st9=>?_⟩;have P9:=P8.trans F9;walk_at"";exact kk H9 g9 D R9 (F3.trans P9) ((st9 .dr (fun h=>h)).trans edr) hD0 (P9.out _ _ hD3 oD3) (P9.outs hD3 oD3)
structure nR(t:Table)(m:DM):Prop where
 n:m.n=t.setup.seats
 recipe:m.recipe=t.setup.recipe
 takes:m.takes=t.setup.takes
 rounds:m.rounds=t.setup.rounds
 kinds:m.kinds=t.setup.kinds
 sheets:m.sheets=t.sheets
 WG:m.places.length=4
 pl:∀k,k<4->m.places.getD k 0=t.off.getD k 0 %(t.sheets.getD k []).length
 round:m.round=t.round
 sorts:m.sorts=t.cards
 queues:∀i,m.queues i=bc t i
 pools:∀i,m.pools i=cA t i
 first:∀i,m.first i=firstOf (p5 t i)
 last:∀i,m.last i=lastOf (p5 t i)
theorem qk(s:List Nat)(o n:Nat):bR s (o %s.length) n=bR s o n:=by
 unfold bR;apply bU;intro j _;rw[Iu]
theorem j8{m:DM}{k i j:Nat}(h:k≠i):(pQ m k j).places.getD i 0=m.places.getD i 0:=Ma.cw h
theorem W5(m:DM):cP m 4=pQ (pQ (pQ (pQ m 0 (m.recipe.getD 0 0)) 1 (m.recipe.getD 1 0)) 2 (m.recipe.getD 2 0)) 3 (m.recipe.getD 3 0):=rfl
theorem M9{m:DM}(h:m.places.length=4):(cP m 4).sorts=m.sorts++((bR (m.sheets.getD 0 []) (m.places.getD 0 0) (m.recipe.getD 0 0))++((bR (m.sheets.getD 1 []) (m.places.getD 1 0) (m.recipe.getD 1 0))++((bR (m.sheets.getD 2 []) (m.places.getD 2 0) (m.recipe.getD 2 0))++(bR (m.sheets.getD 3 []) (m.places.getD 3 0) (m.recipe.getD 3 0))))):=by
 rw[W5];show(((m.sorts++bR _ (m.places.getD 0 0) _)++bR _ ((pQ m 0 _).places.getD 1 0) _)++bR _ ((pQ (pQ m 0 _) 1 _).places.getD 2 0) _)++bR _ ((pQ (pQ (pQ m 0 _) 1 _) 2 _).places.getD 3 0) _=_;rw[j8 (by decide),j8 (by decide),j8 (by decide),j8 (by decide),j8 (by decide),j8 (by decide)];simp only[dF];rfl
theorem KP{m:DM}(h:m.places.length=4){k:Nat}(hk:k<4):(cP m 4).places.getD k 0=(m.places.getD k 0+m.recipe.getD k 0) %(m.sheets.getD k []).length:=by
 rw[W5];have l1:∀(m:DM) (k j:Nat),(pQ m k j).places.length=m.places.length:=fun m k j=>dD
 match k,hk with
 |0,_=>rw[j8 (by decide),j8 (by decide),j8 (by decide),yJ (by omega)]
 |1,_=>rw[j8 (by decide),j8 (by decide),yJ (by rw[l1];omega),j8 (by decide)];rfl
 |2,_=>rw[j8 (by decide),yJ (by rw[l1,l1];omega),j8 (by decide),j8 (by decide)];rfl
 |3,_=>rw[yJ (by rw[l1,l1,l1];omega),j8 (by decide),j8 (by decide),j8 (by decide)];rfl
theorem Ub{m:DM}(h:m.places.length=4):(cP m 4).places.length=4:=by
 rw[W5];have l1:∀(m:DM) (k j:Nat),(pQ m k j).places.length=m.places.length:=fun m k j=>dD
 rw[l1,l1,l1,l1,h]
theorem DJ(m:DM):∀k,(cP m k).sheets=m.sheets
 |0=>rfl
 |k+1=>by rw[fS];exact DJ m k
theorem GO(m:DM):∀k,(cP m k).kinds=m.kinds
 |0=>rfl
 |k+1=>by rw[fS];exact GO m k
theorem GL(m:DM):∀k,(cP m k).takes=m.takes
 |0=>rfl
 |k+1=>by rw[fS];exact GL m k
theorem DK(m:DM):∀k,(cP m k).rounds=m.rounds
 |0=>rfl
 |k+1=>by rw[fS];exact DK m k
theorem GN(m:DM):∀k,(cP m k).pools=m.pools
 |0=>rfl
 |k+1=>by rw[fS];exact GN m k
theorem MM(m:DM)(i:Nat)(p:bA):(recv m i p).sheets=m.sheets:=by unfold recv;split<;>rfl
theorem PC(m:DM)(i:Nat)(p:bA):(recv m i p).kinds=m.kinds:=by unfold recv;split<;>rfl
theorem Py(m:DM)(i:Nat)(p:bA):(recv m i p).takes=m.takes:=by unfold recv;split<;>rfl
theorem MN(m:DM)(i:Nat)(p:bA):(recv m i p).rounds=m.rounds:=by unfold recv;split<;>rfl
theorem DB(m:DM)(i:Nat)(p:bA):(recv m i p).places=m.places:=by unfold recv;split<;>rfl
theorem PB(m:DM)(i:Nat)(p:bA):(recv m i p).pools=m.pools:=by unfold recv;split<;>rfl
theorem Yj{t:Table}{m:DM}(a:nR t m)(hr:t.setup.recipe.length=4):(cP m 4).sorts=t.cards++Ma.eG t:=by
 rw[M9 a.WG,a.sorts,a.sheets,a.recipe,a.pl 0 (by decide),a.pl 1 (by decide),a.pl 2 (by decide),a.pl 3 (by decide),qk,qk,qk,qk]
 congr 1
 unfold Ma.eG;rw[Ma.Ct];simp only[dE,Y8,cV]
theorem Hs{t:Table}(hr:t.setup.recipe.length=4):cH t.cards.length (t.cards++Ma.eG t).length=Ma.cN t:=by
 unfold cH Ma.cN;rw[ai,Nat.add_sub_cancel_left]
theorem WQ{t:Table}{m:DM}(a:nR t m)(hr:t.setup.recipe.length=4){i:Nat}(hi:i<t.setup.seats)(hq:t.queues.length=t.setup.seats)(hl:t.looks.length=t.setup.seats)(he:bc t i=[]):nR (Vbdcaq.openAt t i) (jr m i):=by
 have hs:=Yj a hr;have hc:cH m.sorts.length (cP m 4).sorts.length=Ma.cN t:=by rw[hs,a.sorts,Hs hr]
 have qe:(eT (cP m 4) i (some ⟨i,0,Ma.cN t⟩)).queues i=[]:=by
  show(cP m 4).queues i=[];rw[i7,a.queues,he]
 unfold jr;rw[hc];rw[Ma.CJ];refine⟨?_,?_,?_,?_,?_,?_,?_,?_,?_,?_,?_,?_,?_,?_⟩
 ·rw[Cs];show(cP m 4).n=_;rw[pM,a.n]
 ·rw[DA];show(cP m 4).recipe=_;rw[mx,a.recipe]
 ·rw[Py];show(cP m 4).takes=_;rw[GL,a.takes]
 ·rw[MN];show(cP m 4).rounds=_;rw[DK,a.rounds]
 ·rw[PC];show(cP m 4).kinds=_;rw[GO,a.kinds]
 ·rw[MM];show(cP m 4).sheets=_;rw[DJ,a.sheets]
 ·rw[DB];exact Ub a.WG
 ·intro k hk;rw[DB];show(cP m 4).places.getD k 0=_;rw[KP a.WG hk,a.pl k hk,a.recipe,a.sheets,Iu]
  congr 1
  show _=((aG 4).map fun k=>t.off.getD k 0+t.setup.recipe.getD k 0).getD k 0;rw[Ma.Ct];match k,hk with
  |0,_=>rfl
  |1,_=>rfl
  |2,_=>rfl
  |3,_=>rfl
 ·rw[Gm];show(cP m 4).round=_;rw[oG,a.round]
 ·rw[Gk];exact hs
 ·intro j;rw[mw];show _=(t.queues.set i [⟨i,0,Ma.cN t⟩]).getD j [];by_cases e:j=i
  ·subst e;rw[jq,qe,Ma.cy (by omega)];rfl
  ·rw[m8 e,Ma.cw (fun q=>e q.symm)];show(cP m 4).queues j=_;rw[i7,a.queues];rfl
 ·intro j;rw[PB];show(cP m 4).pools j=_;rw[GN,a.pools];rfl
 ·intro j;unfold recv;rw[if_pos qe];show(if j=i then fe ((cP m 4).first i) ((cP m 4).round*(cP m 4).n+i,Ma.cN t)else(cP m 4).first j)=firstOf ((t.looks.set i (t.looks.getD i []++[(t.round*t.setup.seats+i,Ma.cN t)])).getD j []);rw[u9,oG,pM,a.round,a.n];by_cases e:j=i
  ·subst e;rw[if_pos rfl,Ma.cy (by omega),k8,a.first];rfl
  ·rw[if_neg e,Ma.cw (fun q=>e q.symm),a.first];rfl
 ·intro j;unfold recv;rw[if_pos qe];show(if j=i then kX ((cP m 4).last i) ((cP m 4).round*(cP m 4).n+i,Ma.cN t)else(cP m 4).last j)=lastOf ((t.looks.set i (t.looks.getD i []++[(t.round*t.setup.seats+i,Ma.cN t)])).getD j []);rw[yA,oG,pM,a.round,a.n];by_cases e:j=i
  ·subst e;rw[if_pos rfl,Ma.cy (by omega),xp,a.last];rfl
  ·rw[if_neg e,Ma.cw (fun q=>e q.symm),a.last];rfl
theorem Jc{t:Table}{m:DM}(a:nR t m)(O:Ma.lg 0 t):∀k,k<=t.setup.seats->nR ((aG k).foldl Vbdcaq.openAt t) (gO m k)
 |0,_=>a
 |k+1,hk=>by
  obtain⟨o,e1,e2,e3⟩:=Ma.RG O k (by omega);rw[Ma.gJ,mf];refine WQ (Jc a O k (by omega)) ?_ ?_ o.str.ql o.str.ll (o.LS k (ao _))
  ·exact o.su.acr
  ·rw[e1];omega
theorem DH{t:Table}{m:DM}(a:nR t m)(O:Ma.lg 0 t):nR (Vbdcaq.openAll t) (gO m m.n):=by
 rw[a.n];exact Jc a O _ (ao _)
theorem DV{α β:Type}(f:α->β)(P:β->Bool):∀l:List α,(l.map f).filter P=(l.filter fun a=>P (f a)).map f
 |[]=>rfl
 |a::l=>by
  rw[bo,gW,gW,DV f P l];split<;>rfl
theorem zp{α:Type}{P Q:α->Bool}:∀ {l:List α},(∀a∈l,P a=Q a)->l.filter P=l.filter Q
 |[],_=>rfl
 |a::l,h=>by rw[gW,gW,h a ah,zp fun b hb=>h b (aA _ hb)]
theorem GU(cs:List Nat):(aG cs.length).map (fun k=>cs.getD k 0)=cs:=by
 apply lI
 ·simp
 ·intro i h1 h2;rw[jJ,mJ,Ma.getD_in h2]
theorem Nq{cs pl:List Nat}(hc:cs.Nodup)(hl:∀k∈pl,k<cs.length):ml cs pl cs.length=Ma.left cs pl:=by
 unfold Ma.left ml
 conv=>rhs;arg 2;rw[<-GU cs]
 rw[DV]
 congr 1
 apply zp
 intro k hk;have hk:=bG.mp hk
 congr 1
 rw[aY,aY];apply decide_eq_decide.mpr;unfold Ma.got;rw[bh];constructor
 ·intro h;exact⟨k,h,rfl⟩
 ·rintro⟨j,hj,e⟩;rw[Ma.getD_in hk,Ma.getD_in (hl j hj)]at e;rw[<-(FA hc).mp e];exact hj
theorem Nj{t:Table}{m:DM}(a:nR t m){i:Nat}(hl:i<t.looks.length){p:bA}{r:List bA}(hq:bc t i=p::r):nR (iD t i) (looked m i p):=by
 rw[Ma.Ag hq];refine⟨a.n,a.recipe,a.takes,a.rounds,a.kinds,a.sheets,a.WG,a.pl,a.round,a.sorts,a.queues,a.pools,fun j=>?_,fun j=>?_⟩
 ·show(if j=i then fe (m.first i) (m.round*m.n+p.origin,p.cards)else m.first j)=firstOf ((t.looks.set i (p5 t i++[(t.round*t.setup.seats+p.origin,p.cards)])).getD j []);rw[a.round,a.n];by_cases e:j=i
  ·subst e;rw[if_pos rfl,Ma.cy hl,k8,a.first]
  ·rw[if_neg e,Ma.cw (fun q=>e q.symm),a.first];rfl
 ·show(if j=i then kX (m.last i) (m.round*m.n+p.origin,p.cards)else m.last j)=lastOf ((t.looks.set i (p5 t i++[(t.round*t.setup.seats+p.origin,p.cards)])).getD j []);rw[a.round,a.n];by_cases e:j=i
  ·subst e;rw[if_pos rfl,Ma.cy hl,xp,a.last]
  ·rw[if_neg e,Ma.cw (fun q=>e q.symm),a.last];rfl
theorem Zz{t:Table}{m:DM}(a:nR t m){i:Nat}(Jq:i<t.queues.length)(hl:i<t.looks.length)(r:List bA)(ps:List (List Nat))(hps:∀j,m.pools j=t.pools.getD j []):nR (iD {t with queues:=t.queues.set i r} i) (rel m i r):=by
 have base:nR {t with queues:=t.queues.set i r} (kW m i r):=by
  refine⟨a.n,a.recipe,a.takes,a.rounds,a.kinds,a.sheets,a.WG,a.pl,a.round,a.sorts,fun j=>?_,a.pools,a.first,a.last⟩;show _=(t.queues.set i r).getD j [];by_cases e:j=i
  ·subst e;rw[jq,Ma.cy Jq]
  ·rw[m8 e,Ma.cw (fun q=>e q.symm),a.queues];rfl
 have qi:bc {t with queues:=t.queues.set i r} i=r:=Ma.cy Jq;cases r with
 |nil=>rw[Ma.CT qi];exact base
 |cons p r'=>exact Nj base hl qi
theorem MS{t:Table}{m:DM}(a:nR t m){i:Nat}(tQ:i<t.pools.length)(l:List Nat):nR {t with pools:=t.pools.set i (cA t i++l)} (fi m i l):=by
 refine⟨a.n,a.recipe,a.takes,a.rounds,a.kinds,a.sheets,a.WG,a.pl,a.round,a.sorts,a.queues,fun j=>?_,a.first,a.last⟩;show _=(t.pools.set i (cA t i++l)).getD j [];by_cases e:j=i
 ·subst e;rw[Gs,Ma.cy tQ,a.pools]
 ·rw[Gq e,Ma.cw (fun q=>e q.symm),a.pools];rfl
theorem ZK{t:Table}{m:DM}(a:nR t m)(h:Ma.Str t){i:Nat}(hi:i<t.setup.seats){p:bA}{r:List bA}(pl:List Nat):nR (Ma.nU t i p r pl) (fi (rel m i r) i (Ma.got p.cards pl)):=by
 have Jq:i<t.queues.length:=by rw[h.ql];exact hi
 have tQ:i<t.pools.length:=by rw[h.pl];exact hi
 have hll:i<t.looks.length:=by rw[h.ll];exact hi
 have e:fi (rel m i r) i (Ma.got p.cards pl)=rel (fi m i (Ma.got p.cards pl)) i r:=by cases r<;>rfl
 rw[e];have:=Zz (MS a tQ (Ma.got p.cards pl)) (i:=i) Jq hll r [] (MS a tQ (Ma.got p.cards pl)).pools;exact this
theorem nR.pk{t:Table}{m:DM}(a:nR t m)(o:Nat)(p:Option bA):nR t (eT m o p):=⟨a.n,a.recipe,a.takes,a.rounds,a.kinds,a.sheets,a.WG,a.pl,a.round,a.sorts,a.queues,a.pools,a.first,a.last⟩
theorem nR.pick{t:Table}{m:DM}(a:nR t m)(x:Nat×List Nat):nR t (Fu m x):=⟨a.n,a.recipe,a.takes,a.rounds,a.kinds,a.sheets,a.WG,a.pl,a.round,a.sorts,a.queues,a.pools,a.first,a.last⟩
theorem Wx{t:Table}{m:DM}(a:nR t m){j:Nat}(hj:j<t.queues.length)(hl:t.looks.length=t.queues.length)(p:bA):
  nR (if (bc t j).isEmpty=true then iD {t with queues:=t.queues.set j (bc t j++[p])} j else{t with queues:=t.queues.set j (bc t j++[p])}) (recv m j p):=by
 have base:nR {t with queues:=t.queues.set j (bc t j++[p])} (kW m j (m.queues j++[p])):=by
  refine⟨a.n,a.recipe,a.takes,a.rounds,a.kinds,a.sheets,a.WG,a.pl,a.round,a.sorts,fun i=>?_,a.pools,a.first,a.last⟩;show _=(t.queues.set j (bc t j++[p])).getD i [];by_cases e:i=j
  ·subst e;rw[jq,Ma.cy hj,a.queues]
  ·rw[m8 e,Ma.cw (fun q=>e q.symm),a.queues];rfl
 unfold recv;by_cases e:m.queues j=[]
 ·have e':bc t j=[]:=by rw[<-a.queues];exact e
  rw[if_pos e,if_pos (by rw[e'];rfl)];have qj:bc {t with queues:=t.queues.set j (bc t j++[p])} j=[p]:=by
   show(t.queues.set j (bc t j++[p])).getD j []=[p];rw[Ma.cy hj,e'];rfl
  exact Nj base (by show j<t.looks.length;omega) qj
 ·have e':¬(bc t j).isEmpty=true:=by
   rw[fZ,<-a.queues];exact e
  rw[if_neg e,if_neg e'];exact base
theorem Ol{t:Table}{m:DM}(a:nR t m)(h:t.queues.length=t.setup.seats):yb m=t.queues.all fun q=>q.isEmpty:=by
 unfold yb;rw[a.n,<-h];have:∀l:List (List bA),((aG l.length).all fun i=>(l.getD i []).isEmpty)=l.all fun q=>q.isEmpty:=by
  intro l;cases e:l.all fun q=>q.isEmpty with
  |true=>
   rw[bD]at e⊢;intro i hi;have hi:=bG.mp hi;rw[Ma.getD_in hi];exact e _ (df hi)
  |false=>
   rw[Eo]at e⊢;obtain⟨q,hq,hn⟩:=e;obtain⟨i,hi,rfl⟩:=lZ hq;exact⟨i,bG.mpr hi,by rw[Ma.getD_in hi];exact hn⟩
 rw[<-this t.queues]
 congr 1
 funext i
 rw[a.queues];rfl
theorem XY{b:Table}{m:DM}(a:nR b m)(su:Ma.gT b.setup)(sh:b.sheets=gU b.setup)(Ab:b.off.length=4)(rd:b.round<b.setup.rounds)(cnt:Ma.Yu ((b.round+1)*b.setup.seats) b)(str:Ma.Str b):nR (Ma.kM b) (lN m):=by
 unfold Ma.kM lN;rw[<-Ol a str.ql];cases e:yb m with
 |false=>rw[if_neg (by decide),if_neg (by decide)];exact a
 |true=>
  rw[if_pos rfl,if_pos rfl];have a':nR {b with round:=b.round+1} (c9 m):=⟨a.n,a.recipe,a.takes,a.rounds,a.kinds,a.sheets,a.WG,a.pl,by show m.round+1=b.round+1;rw[a.round],a.sorts,a.queues,a.pools,a.first,a.last⟩;have hov:(kP {b with round:=b.round+1}=true)↔((c9 m).round=(c9 m).rounds):=by
   show decide (b.setup.rounds<=b.round+1)=true↔m.round+1=m.rounds;rw[decide_eq_true_iff,a.round,a.rounds];omega
  by_cases o:(c9 m).round=(c9 m).rounds
  ·rw[if_pos (hov.mpr o),if_pos o];exact a'
  ·rw[if_neg (fun q=>o (hov.mp q)),if_neg o];have lM:b.round+1<b.setup.rounds:=by
    have:¬(m.round+1=m.rounds):=o;rw[a.round,a.rounds]at this;omega
   have e2:(b.queues.all fun q=>q.isEmpty)=true:=by rw[<-Ol a str.ql];exact e
   exact DH a' (Ma.Ba su sh Ab lM cnt str (Ma.all_empty e2))
structure vW(m:DM):Prop where
 rN:Fv m
 liv:∀o p,m.pk o=some p->∃i,i<m.n/\p∈m.queues i/\p.origin=o
theorem VO{t:Table}{m:DM}(a:nR t m)(h:Ma.fw t)(ho:kP t=false){i:Nat}(hi:i<t.setup.seats){p:bA}{r:List bA}(hq:bc t i=p::r){pl:List Nat}(ok:Ma.iQ t p pl):
  nR (dP t i pl) (lN (gN m i p r pl))/\nR (Ma.passOn t (Ma.nU t i p r pl) i p pl) (gN m i p r pl):=by
 have hp:p∈bc t i:=by rw[hq];exact ah
 have nd:=Ma.oC h.str.toF hi hp;have kl:=Nq nd ok.lt;have a1:=ZK a h.str hi (p:=p) (r:=r) pl;have s1:=Ma.wX h.str hi hq ok;have f1:=Ma.pb t i p r pl;have f2:=Ma.qg f1 i p pl;have s2:=Ma.ug (i:=i) s1 f1 (by omega) (h.str.pk i p hp).2;have a2:nR (Ma.passOn t (Ma.nU t i p r pl) i p pl) (gN m i p r pl):=by
  unfold Ma.passOn gN;rw[kl];by_cases e:(Ma.left p.cards pl).isEmpty=true
  ·rw[if_pos e,if_pos e];exact((a1.pk _ _).pick (i,pl)).pk _ _
  ·rw[if_neg e,if_neg e];have nb:ON m.n m.round i=Vu t i:=by
    unfold ON Vu;rw[a.n,a.round]
   have np:kh p pl=⟨p.origin,p.visits+1,Ma.left p.cards pl⟩:=by unfold kh;rw[kl]
   rw[nb,np];exact Wx (((a1.pk _ _).pick (i,pl)).pk _ _) (by rw[s1.ql,f1.setup];exact Ma.qo (by omega)) (by rw[s1.ll,s1.ql]) _
 refine⟨?_,a2⟩;rw[Ma.AN hq];have c0:=h.cnt;rw[ho,if_neg (by decide)]at c0;have c2:Ma.Yu (((Ma.passOn t (Ma.nU t i p r pl) i p pl).round+1)*(Ma.passOn t (Ma.nU t i p r pl) i p pl).setup.seats) (Ma.passOn t (Ma.nU t i p r pl) i p pl):=by
  refine⟨?_,?_,?_⟩
  ·unfold Ma.size;rw[f2.round,f2.setup,f2.cards];exact c0.cl
  ·rw[f2.round,f2.setup,f2.off];exact c0.off
  ·rw[f2.setup,f2.cards];exact c0.cs
 exact XY a2 (by rw[f2.setup];exact h.su) (by rw[f2.sheets,f2.setup];exact h.sh) (by rw[f2.off];exact h.Ab) (by rw[f2.round,f2.setup];exact Ma.zW ho) c2 s2
theorem TQ{t:Table}{m:DM}(a:nR t m)(su:Ma.gT t.setup)(sh:t.sheets=gU t.setup):Ready m:=by
 refine⟨?_,a.WG,?_,?_,?_⟩
 ·rw[a.sheets,sh,Ma.jR]
 ·rw[a.recipe];exact su.acr
 ·intro k hk hr;rw[a.recipe]at hr;rw[a.sheets,sh,Ma.qV _ hk];exact iF.mpr (Ma.KU su.ah3 hk hr)
 ·intro k hk;rw[a.pl k hk,a.sheets,Nat.mod_mod]
theorem IQ{m:DM}(h:Fv m)(hl:∀o x,m.pk o=some x->o≠(p:bA).origin->∃i,i<m.n/\x∈m.queues i/\x.origin=o){j:Nat}(hj:j<m.n)(hp:m.pk p.origin=some p):vW (recv m j p):=by
 refine⟨fun i hi x hx=>?_,fun o x ho=>?_⟩
 ·rw[Cs]at hi;rw[mw]at hx;rw[Fe];exact Lm h hp i hi x hx
 ·rw[Fe]at ho;rw[Cs,mw];by_cases e:o=p.origin
  ·rw[e,hp]at ho;cases ho;exact⟨j,hj,by rw[jq];exact aH.mpr (.inr ah),e.symm⟩
  ·obtain⟨i,hi,hx,eo⟩:=hl o x ho e;refine⟨i,hi,?_,eo⟩;by_cases ei:i=j
   ·rw[ei,jq];rw[ei]at hx;exact aH.mpr (.inl hx)
   ·rw[m8 ei];exact hx
theorem Tp{m:DM}(k:vW m){i:Nat}(hi:i<m.n){p:bA}{r:List bA}(hq:m.queues i=p::r)(pl:List Nat)(hfl:∀j,j<m.n->∀x∈(kW m i r).queues j,x.origin≠p.origin):vW (gN m i p r pl):=by
 have n1:(take1 m i p r pl).n=m.n:=Ws m i r;have q1:(take1 m i p r pl).queues=(kW m i r).queues:=Gj m i r;have pk1:∀o,o≠p.origin->(take1 m i p r pl).pk o=m.pk o:=fun o h=>by
  show(eT (fi (rel m i r) i (Ma.got p.cards pl)) p.origin (some (kE p pl))).pk o=m.pk o;rw[jY h];show(rel m i r).pk o=m.pk o;rw[Px]
 have N9:∀j,j<m.n->∀x∈(kW m i r).queues j,m.pk x.origin=some x:=fun j hj x hx=>Ho k.rN hq j hj x hx
 have afk:∀o x,o≠p.origin->m.pk o=some x->∃j,j<m.n/\x∈(kW m i r).queues j/\x.origin=o:=by
  intro o x ho hx;obtain⟨j,hj,hm,eo⟩:=k.liv o x hx;refine⟨j,hj,?_,eo⟩;by_cases e:j=i
  ·subst e;rw[jq];rw[hq]at hm;rcases aM.mp hm with rfl|hm
   ·exact absurd eo.symm ho
   ·exact hm
  ·rw[m8 e];exact hm
 unfold gN;split
 ·refine⟨fun j hj x hx=>?_,fun o x ho=>?_⟩
  ·have C0:j<m.n:=by rw[<-n1];exact hj
   have EG:x∈(kW m i r).queues j:=by rw[<-q1];exact hx
   have ne:=hfl j C0 x EG;rw[jY ne,pk1 _ ne];exact N9 j C0 x EG
  ·by_cases e:o=p.origin
   ·rw[e,kG]at ho;cases ho
   ·rw[jY e,pk1 o e]at ho;obtain⟨j,hj,hm,eo⟩:=afk o x e ho;exact⟨j,by rw[<-n1]at hj;exact hj,by rw[<-q1]at hm;exact hm,eo⟩
 ·have hnb:ON m.n m.round i<m.n:=by unfold ON;split<;>exact iX _ (by omega)
  refine IQ (p:=kh p pl) ?_ ?_ (by show ON m.n m.round i<(take1 m i p r pl).n;rw[n1];exact hnb) (kG _ _ _)
  ·intro j hj x hx;have C0:j<m.n:=by rw[<-n1];exact hj
   have EG:x∈(kW m i r).queues j:=by rw[<-q1];exact hx
   have ne:=hfl j C0 x EG;rw[jY ne,pk1 _ ne];exact N9 j C0 x EG
  ·intro o x ho e;have e:o≠p.origin:=e;rw[jY e,pk1 o e]at ho;obtain⟨j,hj,hm,eo⟩:=afk o x e ho;exact⟨j,by rw[<-n1]at hj;exact hj,by rw[<-q1]at hm;exact hm,eo⟩
theorem Kz{m:DM}{k:Nat}(hk:k<m.n)(o:Av m k)(h:vW m):vW (jr m k):=by
 unfold jr;have adU:Fv (cP m 4):=by
  intro i hi x hx;rw[qm];rw[i7]at hx;exact h.rN i (by rw[pM]at hi;exact hi) x hx
 refine IQ (p:=⟨k,0,cH m.sorts.length (cP m 4).sorts.length⟩) (xX adU (by rw[qm];exact o.pkn k (ao _)) _) ?_ (by show k<(cP m 4).n;rw[pM];exact hk) (kG _ _ _);intro o' x ho e;have e:o'≠k:=e;rw[jY e,qm]at ho;obtain⟨j,hj,hm,eo⟩:=h.liv o' x ho;exact⟨j,by show j<(cP m 4).n;rw[pM];exact hj,by show x∈(cP m 4).queues j;rw[i7];exact hm,eo⟩
theorem zY{m:DM}(o:Av m 0)(h:vW m):∀k,k<=m.n->vW (gO m k)
 |0,_=>h
 |k+1,hk=>by
  obtain⟨a,b,_⟩:=CH o k;rw[mf];exact Kz (by rw[b];omega) a (zY o h k (by omega))
theorem UM{m:DM}(o:yb m=true->Av m 0)(h:vW m):vW (lN m):=by
 unfold lN;split
 ·rename_i e;have o:=o e;split
  ·exact⟨h.rN,h.liv⟩
  ·exact zY (m:=c9 m) ⟨⟨o.OL.s4,o.OL.p4,o.OL.r4,o.OL.ne,o.OL.pl⟩,o.rN,o.pkn,o.qn,o.sb,o.r15⟩ ⟨h.rN,h.liv⟩ m.n (ao _)
 ·exact h
theorem RK{t:Table}{m:DM}(a:nR t m)(su:Ma.gT t.setup)(sh:t.sheets=gU t.setup)(str:Ma.Str t)(ajw:t.cards.length<=640)(h:vW m)(e:yb m=true):Av m 0:=by
 have LS:∀i,m.queues i=[]:=by
  intro i;by_cases hi:i<m.n
  ·unfold yb at e;rw[bD]at e;exact fZ.mp (e i (bG.mpr hi))
  ·rw[a.queues];exact Ma.Bo (by rw[str.ql,<-a.n];omega)
 refine⟨TQ a su sh,h.rN,fun o _=>?_,fun j _=>LS j,fun j=>?_,fun k hk=>by rw[a.recipe];exact su.ahD k hk⟩
 ·cases q:m.pk o with
  |none=>rfl
  |some p=>
   obtain⟨i,_,hm,_⟩:=h.liv o p q;rw[LS]at hm;cases hm
 ·have:=Jf (t:=t) (RU str ajw) j;rw[a.first,a.last];omega
theorem js{H:Hp}{x:Addr}{o:HO}{C:Hp->Prop}(h:∀H',H' x=some o->ye x H H'->C H'):C (upd H x o):=h _ ak (ye.of H x o)
def Pf(ad:Ad):Sp:=fun vs H Q _=>E2 fun(x dx:Addr)=>A3 (vs=[.ref x]) (H x=some (.ins ad.jf dx [])) (∀H' a b c d,H a=none->H b=none->H c=none->H d=none->[x,a,b,c,d].Nodup->H' x=some (.ins ad.jf dx [("row",.ref a),("pool",.ref b),("first_looks",.ref c),("last_looks",.ref d)])->H' a=some (.lst [])->H' b=some (.lst [])->H' c=some (.dK [])->H' d=some (.dK [])->ye x H H'->Q .lC H')
theorem rp{x b:Addr}{H H':Hp}(h:ye x H H')(hb:H' b=none)(n:x≠b):H b=none:=by
 cases e:H b with
 |none=>rfl
 |some o=>rw[h _ _ e (bT n)]at hb;cases hb
theorem KJ(T:Txt K mg ad):cF P w K mg base iC 1 ad.D4 ad.Ee ["self"] (Pf ad):=by
 refine T.wk.F.ok Kl (by rintro _ _ _ _ ⟨x,dx,rfl,_⟩;rfl) (fun _ A _ s H vs Q E hr h=>?_)
 ·obtain⟨x,dx,rfl,hx,k⟩:=h;refine⟨_,(aC (eR (pv 0) (fg ay) rfl)
   (aC (eR (pv 0) (fg ay) rfl)
   (aC (eR (pv 0) GA rfl)
   (aJ (eR (pv 0) GA rfl))))),?_⟩
  walk_at"";refine⟨by decide,fun a ha=>?_⟩;have nxa:x≠a:=aR hx ha;walk_at"";refine⟨x,_,dx,_,rfl,bq ha hx,T.cT,T.fh,by decide,js fun H1 x1 b1=>?_⟩;have a1:=b1 _ _ ak (bT nxa);have B1:ye x H H1:=fun b o e hb=>b1 b o (bq ha e) hb
  clear b1;walk_at"";refine⟨by decide,fun b hb=>?_⟩;have nxb:x≠b:=aR x1 hb;walk_at"";refine⟨x,_,dx,_,rfl,bq hb x1,T.cT,T.my,(by show 1<1000;decide),js fun H2 x2 b2=>?_⟩;have b2':=b2 _ _ ak (bT nxb);have B2:ye x H1 H2:=fun b o e h=>b2 b o (bq hb e) h
  clear b2;have a2:=B2 _ _ a1 (bT nxa);walk_at"";intro c hc;have nxc:x≠c:=aR x2 hc;walk_at"";refine⟨x,_,dx,_,rfl,bq hc x2,T.cT,T.mj,(by show 2<1000;decide),js fun H3 x3 b3=>?_⟩;have c3:=b3 _ _ ak (bT nxc);have B3:ye x H2 H3:=fun b o e h=>b3 b o (bq hc e) h
  clear b3;have a3:=B3 _ _ a2 (bT nxa);have b3:=B3 _ _ b2' (bT nxb);walk_at"";intro d hd;have nxd:x≠d:=aR x3 hd;walk_at"";refine⟨x,_,dx,_,rfl,bq hd x3,T.cT,T.i8,(by show 3<1000;decide),js fun H4 x4 b4=>?_⟩;have d4:=b4 _ _ ak (bT nxd);have B4:ye x H3 H4:=fun b o e h=>b4 b o (bq hd e) h
  clear b4;refine k H4 a b c d ha (rp B1 hb nxb) (rp B1 (rp B2 hc nxc) nxc) (rp B1 (rp B2 (rp B3 hd nxd) nxd) nxd) ?_ x4 (B4 _ _ a3 (bT nxa)) (B4 _ _ b3 (bT nxb)) (B4 _ _ c3 (bT nxc)) d4 (B1.trans (B2.trans (B3.trans B4)));have n1:a≠b:=aR a1 hb;have n2:a≠c:=aR a2 hc;have n3:b≠c:=aR b2' hc;have n4:a≠d:=aR a3 hd;have n5:b≠d:=aR b3 hd;have n6:c≠d:=aR c3 hd;simp only[cB,aM,jE,or_false,not_or,not_false_eq_true,eI,and_true];exact⟨⟨nxa,nxb,nxc,nxd⟩,⟨n1,n2,n4⟩,⟨n3,n5⟩,n6⟩
def LU(n:Nat)(recipe:List Nat)(takes rounds:Nat)(kinds:List iI)(sheets:List (List Nat)):DM:=⟨n,recipe,takes,rounds,kinds,sheets,sheets.map fun _=>0,0,[],[],fun _=>[],fun _=>[],fun _=>[],fun _=>[],fun _=>none⟩
def rB(i:Nat):Role->Prop
 |.dn j=>j<i
 |.row j=>j<i
 |.pool j=>j<i
 |.first j=>j<i
 |.last j=>j<i
 |_=>False
structure U6(ad:Ad)(m:DM)(g:Gh)(i:Nat)(H0 H:Hp):Prop where
 inj:∀r r',rB i r->rB i r'->g r=g r'->r=r'
 at_:∀r,rB i r->∃o,H (g r)=some o/\yV ad g m r o
 new:∀r,rB i r->H0 (g r)=none
def pz(g:Gh)(i:Nat)(x a b c d:Addr):Gh:={g with to:=fun r=>if r=.dn i then x else if r=.row i then a else if r=.pool i then b else if r=.first i then c else if r=.last i then d else g r}
theorem j4{g:Gh}{i:Nat}{x a b c d:Addr}{r:Role}(h:rB i r):pz g i x a b c d r=g r:=by
 have key:r≠ .dn i/\r≠ .row i/\r≠ .pool i/\r≠ .first i/\r≠ .last i:=by
  refine⟨?_,?_,?_,?_,?_⟩<;>intro e<;>rw[e]at h<;>exact absurd h (et _)
 show(if r=.dn i then x else if r=.row i then a else if r=.pool i then b else if r=.first i then c else if r=.last i then d else g r)=g r;rw[if_neg key.1,if_neg key.2.1,if_neg key.2.2.1,if_neg key.2.2.2.1,if_neg key.2.2.2.2]
theorem qW(g:Gh)(i:Nat)(x a b c d:Addr):pz g i x a b c d (.dn i)=x:=if_pos rfl
theorem uk(g:Gh)(i:Nat)(x a b c d:Addr):pz g i x a b c d (.row i)=a:=by simp[pz]
theorem qX(g:Gh)(i:Nat)(x a b c d:Addr):pz g i x a b c d (.pool i)=b:=by simp[pz]
theorem pw(g:Gh)(i:Nat)(x a b c d:Addr):pz g i x a b c d (.first i)=c:=by simp[pz]
theorem qY(g:Gh)(i:Nat)(x a b c d:Addr):pz g i x a b c d (.last i)=d:=by simp[pz]
theorem rB.cases{i:Nat}{r:Role}(h:rB (i+1) r):rB i r\/r=.dn i\/r=.row i\/r=.pool i\/r=.first i\/r=.last i:=by
 have lt:∀ {j:Nat},j<i+1->j<i\/j=i:=fun h=>by omega
 cases r with
 |dn j=>rcases lt h with h|rfl;exact .inl h;exact .inr (.inl rfl)
 |row j=>rcases lt h with h|rfl;exact .inl h;exact .inr (.inr (.inl rfl))
 |pool j=>rcases lt h with h|rfl;exact .inl h;exact .inr (.inr (.inr (.inl rfl)))
 |first j=>rcases lt h with h|rfl;exact .inl h;exact .inr (.inr (.inr (.inr (.inl rfl))))
 |last j=>rcases lt h with h|rfl;exact .inl h;exact .inr (.inr (.inr (.inr (.inr rfl))))
 |_=>exact h.elim
theorem U6.step{ad:Ad}{m:DM}{g:Gh}{i:Nat}{H0 H H':Hp}(R:U6 ad m g i H0 H)(hq:∀j,m.queues j=[])(hp:∀j,m.pools j=[])(hf:∀j,m.first j=[])(hs:∀j,m.last j=[]){x a b c d dx:Addr}(sx:a7 H0 H)(hx:H x=none)(ha:H a=none)(hb:H b=none)(hc:H c=none)(hd:H d=none)
  (nd:[x,a,b,c,d].Nodup)(k:a7 H H')(h1:H' x=some (.ins ad.jf dx [("row",.ref a),("pool",.ref b),("first_looks",.ref c),("last_looks",.ref d)]))(h2:H' a=some (.lst []))(h3:H' b=some (.lst []))(h4:H' c=some (.dK []))(h5:H' d=some (.dK [])):
  U6 ad m (pz g i x a b c d) (i+1) H0 H':=by
 simp only[cB,aM,jE,or_false,not_or,not_false_eq_true,eI,and_true]at nd;obtain⟨⟨n1,n2,n3,n4⟩,⟨n5,n6,n7⟩,⟨n8,n9⟩,n10⟩:=nd;have old:∀r,rB i r->∀y,H y=none->g r≠y:=by
  intro r hr y hy e;obtain⟨o,h,_⟩:=R.at_ r hr;rw[e,hy]at h;cases h
 refine⟨fun r r' h h' e=>?_,fun r h=>?_,fun r h=>?_⟩
 ·rcases h.cases with h|rfl|rfl|rfl|rfl|rfl<;>rcases h'.cases with h'|rfl|rfl|rfl|rfl|rfl<;>
   simp only[j4 h,j4 h',qW,uk,qX,pw,qY]at e<;>
   first
    |rfl
    |exact R.inj r r' h h' e
    |exact absurd e (old _ h _ (by assumption))
    |exact absurd e.symm (old _ h' _ (by assumption))
    |exact absurd e (by assumption)
    |exact absurd e.symm (by assumption)
 ·rcases h.cases with h|rfl|rfl|rfl|rfl|rfl
  ·obtain⟨o,e1,e2⟩:=R.at_ r h;rw[j4 h];refine⟨o,k _ _ e1,?_⟩;cases r with
   |dn j=>
    obtain⟨d',rfl⟩:=e2;have h:j<i:=h;refine⟨d',?_⟩;unfold seF;rw[j4 (r:=.row j) h,j4 (r:=.pool j) h,j4 (r:=.first j) h,j4 (r:=.last j) h]
   |row j=>
    have e2:o=_:=e2;show o=HO.lst ((m.queues j).map _);rw[e2,hq];rfl
   |pool j=>exact e2
   |first j=>exact e2
   |last j=>exact e2
   |_=>exact h.elim
  ·rw[qW];refine⟨_,h1,dx,?_⟩;unfold seF;rw[uk,qX,pw,qY]
  ·rw[uk];refine⟨_,h2,?_⟩;show HO.lst []=HO.lst ((m.queues i).map _);rw[hq];rfl
  ·rw[qX];refine⟨_,h3,?_⟩;show HO.lst []=HO.lst ((m.pools i).map _);rw[hp];rfl
  ·rw[pw];refine⟨_,h4,[],rfl,?_⟩;rw[hf];exact .nil
  ·rw[qY];refine⟨_,h5,[],rfl,?_⟩;rw[hs];exact .nil
 ·rcases h.cases with h|rfl|rfl|rfl|rfl|rfl
  ·rw[j4 h];exact R.new r h
  ·rw[qW];exact sx.free hx
  ·rw[uk];exact sx.free ha
  ·rw[qX];exact sx.free hb
  ·rw[pw];exact sx.free hc
  ·rw[qY];exact sx.free hd
def K8(g:Gh)(x D pl pi so:Addr):Gh:={g with to:=fun r=>match r with
 |.dr=>x
 |.seats=>D
 |.places=>pl
 |.picks=>pi
 |.sorts=>so
 |r=>g r}
theorem Am{g:Gh}{x D pl pi so:Addr}{n:Nat}{r:Role}(h:rB n r):K8 g x D pl pi so r=g r:=by cases r<;>first|rfl|exact h.elim
theorem xm{n:Nat}{rc:List Nat}{q rd:Nat}{ki:List iI}{sh:List (List Nat)}{r:Role}(h:iG (LU n rc q rd ki sh) r):rB n r\/r=.dr\/r=.seats\/r=.places\/r=.picks\/r=.sorts:=by
 cases r with
 |dr=>exact .inr (.inl rfl)
 |seats=>exact .inr (.inr (.inl rfl))
 |places=>exact .inr (.inr (.inr (.inl rfl)))
 |picks=>exact .inr (.inr (.inr (.inr (.inl rfl))))
 |sorts=>exact .inr (.inr (.inr (.inr (.inr rfl))))
 |dn i=>exact .inl h
 |row i=>exact .inl h
 |pool i=>exact .inl h
 |first i=>exact .inl h
 |last i=>exact .inl h
 |pack o=>have h:(none:Option bA).isSome=true:=h;cases h
theorem Zx{ad:Ad}{g:Gh}{n q rd:Nat}{rc:List Nat}{ki:List iI}{sh:List (List Nat)}{H0 H:Hp}{x dx D pl pi so su:Addr}(R:U6 ad (LU n rc q rd ki sh) g n H0 H)
  (hs:∀r,rB n r->g r∉ [x,D,pl,pi,so])(nd:[x,D,pl,pi,so].Nodup)(z1:a7 g.z H0)(z2:a7 g.z H)(zx:∀y∈[x,D,pl,pi,so],g.z y=none)(S:lb ad g.z su (LU n rc q rd ki sh))
  (h1:H x=some (.ins ad.dC dx (YZ (K8 g x D pl pi so) su (LU n rc q rd ki sh))))(h2:H D=some (.lst ((aG n).map fun i=>.ref (g (.dn i)))))(h3:H pl=some (.lst ((sh.map fun _=>0).map nV)))(h4:H pi=some (.lst []))(h5:H so=some (.lst [])):Rep ad (K8 g x D pl pi so) (LU n rc q rd ki sh) H:=by
 have zz:=fun y h=>zx y h
 simp only[cB,aM,jE,or_false,not_or,not_false_eq_true,eI,and_true]at nd hs;obtain⟨⟨n1,n2,n3,n4⟩,⟨n5,n6,n7⟩,⟨n8,n9⟩,n10⟩:=nd;refine⟨fun r r' h h' e=>?_,fun r h=>?_,z2,fun b u e r h q=>?_⟩
 ·rcases xm h with h|rfl|rfl|rfl|rfl|rfl<;>rcases xm h' with h'|rfl|rfl|rfl|rfl|rfl
  case inl.inl=>rw[Am h,Am h']at e;exact R.inj r r' h h' e
  all_goals first
   |rfl
   |(rw[Am h]at e;have hh:=hs _ h;first|exact absurd e hh.1|exact absurd e hh.2.1|exact absurd e hh.2.2.1|exact absurd e hh.2.2.2.1|exact absurd e hh.2.2.2.2)
   |(rw[Am h']at e;have hh:=hs _ h';first|exact absurd e.symm hh.1|exact absurd e.symm hh.2.1|exact absurd e.symm hh.2.2.1|exact absurd e.symm hh.2.2.2.1|exact absurd e.symm hh.2.2.2.2)
   |exact absurd e (by assumption)
   |exact absurd e.symm (by assumption)
 ·rcases xm h with h|rfl|rfl|rfl|rfl|rfl
  ·obtain⟨o,e1,e2⟩:=R.at_ r h;rw[Am h];refine⟨o,e1,?_⟩;cases r<;>first|exact e2|exact h.elim
  ·exact⟨_,h1,dx,su,rfl,S⟩
  ·exact⟨_,h2,rfl⟩
  ·exact⟨_,h3,rfl⟩
  ·exact⟨_,h4,[],rfl,.nil⟩
  ·exact⟨_,h5,rfl⟩
 ·have e:g.z b=some u:=e;rcases xm h with h|rfl|rfl|rfl|rfl|rfl
  ·rw[Am h]at q;have:=R.new r h;rw[q,z1 _ _ e]at this;cases this
  ·rw[<-q]at e;exact absurd e (by show g.z x≠_;rw[zz x (by simp)];simp)
  ·rw[<-q]at e;exact absurd e (by show g.z D≠_;rw[zz D (by simp)];simp)
  ·rw[<-q]at e;exact absurd e (by show g.z pl≠_;rw[zz pl (by simp)];simp)
  ·rw[<-q]at e;exact absurd e (by show g.z pi≠_;rw[zz pi (by simp)];simp)
  ·rw[<-q]at e;exact absurd e (by show g.z so≠_;rw[zz so (by simp)];simp)
def suV(n:Int)(ra:Addr)(q rd:Int)(ka sa:Addr):List (Str×V):=[("how_many_seats",.int n),("recipe",.ref ra),("at_a_time",.int q),("rounds",.int rd),("sorts",.ref ka),("sheets",.ref sa)]
def Mp(ad:Ad):Sp:=fun vs H Q _=>E5 fun(x dx ra ka:Addr) (n:Int)=>E4 fun(q rd sd:Int) (st:iy)=>A8 (vs=[.ref x,.int n,.ref ra,.int q,.int rd,.int sd,.ref ka]) (H x=some (.ins ad.jT dx [])) (lY ad H ka st.kinds) (0<=sd) (sd.toNat=st.seed) (sd<18446744073709551616) (st.kinds.length<=64) ((∀c∈st.kinds,c.copies<=20)/\∀H' sa ss,H' x=some (.ins ad.jT dx (suV n ra q rd ka sa))->ye x H H'->(∀a∈sa::ss,H a=none)->fW H' sa ss (gU st)->Q .lC H')
theorem lY.but{ad:Ad}{H H':Hp}{x p C dx:Addr}{ks:List iI}(h:lY ad H p ks)(hx:H x=some (.ins C dx []))(b:ye x H H'):lY ad H' p ks:=by
 obtain⟨as,h1,h2,h3⟩:=h.ex;refine⟨as,b _ _ h1 (fun e=>by rw[e,hx]at h1;cases h1),h2,fun j a kd ha hk=>?_⟩;obtain⟨d,e⟩:=h3 j a kd ha hk;exact⟨d,b _ _ e (fun q=>by rw[q,hx]at e;cases e)⟩
theorem ze(T:Txt K mg ad):cF P w K mg base iC 5 ad.Bz ad.BG ["self","how_many_seats","recipe","at_a_time","rounds","seed","sorts"] (Mp ad):=by
 refine T.mN.F.ok HW (by rintro _ _ _ _ ⟨x,dx,ra,ka,n,q,rd,sd,st,rfl,_⟩;rfl) (fun _ A _ s H vs Q E hr h=>?_)
 ·obtain⟨x,dx,ra,ka,n,q,rd,sd,st,rfl,hx,hk,h0,hs,h64,kl,kc,k⟩:=h;refine⟨_,(aC (eR (pv 0) (pv 1) rfl)
   (aC (eR (pv 0) (pv 2) rfl)
   (aC (eR (pv 0) (pv 3) rfl)
   (aC (eR (pv 0) (pv 4) rfl)
   (aC (eR (pv 0) (pv 6) rfl)
   (aJ (eR (pv 0) (bF (EA T) hr.mono rfl T.mL.g T.mL.F.kp T.mL.b .nil bp (af (pv 6) (af (pv 5) ay))) rfl))))))),?_⟩
  walk_at"";refine⟨x,_,dx,_,rfl,hx,T.iP,T.ni,by decide,js fun H1 x1 b1=>?_⟩;walk_at"";refine⟨x,_,dx,_,rfl,x1,T.iP,T.xh,(by show 1<1000;decide),js fun H2 x2 b2=>?_⟩;walk_at"";refine⟨x,_,dx,_,rfl,x2,T.iP,T.sq,(by show 2<1000;decide),js fun H3 x3 b3=>?_⟩;walk_at"";refine⟨x,_,dx,_,rfl,x3,T.iP,T.xg,(by show 3<1000;decide),js fun H4 x4 b4=>?_⟩;walk_at"";refine⟨x,_,dx,_,rfl,x4,T.iP,T.tK,(by show 4<1000;decide),js fun H5 x5 b5=>?_⟩;have B5:ye x H H5:=b1.trans (b2.trans (b3.trans (b4.trans b5)));clear x1 x2 x3 x4 b1 b2 b3 b4 b5;walk_at"";refine⟨ka,sd,st,rfl,hk.but hx B5,h0,hs,h64,kl,kc,fun H6 sa ss s6 n6 L6=>?_⟩;have x6:=s6 _ _ x5;walk_at"";refine⟨x,_,dx,_,rfl,x6,T.iP,T.nh,(by show 5<1000;decide),js fun H7 x7 b7=>?_⟩;have nn:∀a∈sa::ss,a≠x:=fun a ha e=>by have:=n6 a ha;rw[e,x5]at this;cases this
  refine k H7 sa ss x7 (B5.trans (fun b o e hb=>b7 b o (s6 _ _ e) hb)) (fun a ha=>rp B5 (n6 a ha) (bT (nn a ha))) ?_;refine⟨b7 _ _ L6.lst (nn sa ah),L6.nd,L6.len,fun j a l h1 h2=>b7 _ _ (L6.item j a l h1 h2) (nn a (aA _ (bC h1)))⟩
def Mr(ad:Ad):Sp:=fun vs H Q _=>E5 fun(x dx su:Addr) (z0:Hp) (n:Nat)=>E5 fun(q rd:Nat) (rc:List Nat) (ki:List iI) (sh:List (List Nat))=>A8 (vs=[.ref x,.ref su]) (H x=some (.ins ad.dC dx [])) (a7 z0 H) (z0 x=none) (lb ad z0 su (LU n rc q rd ki sh)) (n<=8) (sh.length<=100) ((0<n->Av (LU n rc q rd ki sh) 0)/\∀H' g,Rep ad g (gO (LU n rc q rd ki sh) n) H'->g .dr=x->a7 z0 g.z->ye x H H'->(∀r,iG (gO (LU n rc q rd ki sh) n) r->g r=x\/H (g r)=none)->(∀b,g.z b≠none->z0 b≠none\/H b=none)->Q .lC H')
theorem oV(T:Txt K mg ad):cF P w K mg base iC 5 ad.BB ad.BI ["self","setup"] (Mr ad):=by
 refine T.iu.F.ok lK (by rintro _ _ _ _ ⟨x,dx,su,z0,n,q,rd,rc,ki,sh,rfl,_⟩;rfl) (fun _ A _ s H vs Q E hr h=>?_)
 ·obtain⟨x,dx,su,z0,n,q,rd,rc,ki,sh,rfl,hx,hz,zx,S,hn8,hsh,oi,k⟩:=h;obtain⟨ds,ra,ka,sa,ss,S1,S2,S3,S4⟩:=id S;have zne:∀ {b o},z0 b=some o->b≠x:=fun e q=>by rw[q,zx]at e;cases e
  refine⟨_,(aC (eR (pv 0) (pv 1) rfl)
   (aC (eR (pv 0) (si rfl lK.nd (CC rfl T.De (af (aQ (pv 1) rfl) ay)) (gZ (N:=["self","setup","number","sheet"]) (sc:=aL qd) (own:=[("number",2)]) (by decide+kernel)) (fun _ _ _ _ _=>(cv (i:=2) lK.nd rfl (be rfl) (jh rfl))) (fun _ _ _ _ _=>jO) (fun _ _ _ _ _=>(MX T.wk.m (KJ T) hr.mono rfl T.ZZ T.wk.b .nil bp))) rfl)
   (aC (eR (pv 0) (si rfl lK.nd (hJ (aQ (pv 1) rfl)) (gZ (N:=["self","setup","number","sheet"]) (sc:=aL qd) (own:=[("sheet",3)]) (by decide+kernel)) (fun _ _ _ _ _=>(cv (i:=3) lK.nd rfl (be rfl) (jh rfl))) (fun _ _ _ _ _=>jO) (fun _ _ _ _ _=>aS)) rfl)
   (aC (eR (pv 0) aS rfl)
   (aC (eR (pv 0) (fg ay) rfl)
   (aC (eR (pv 0) (fg ay) rfl)
   (aJ (eu (gf (pv 0) T.a6 T.iK.m (pU T) hr.mono T.iK.b .nil bp))))))))),?_⟩
  walk_at"";refine⟨x,_,dx,_,rfl,hx,T.a6,T.f9,by decide,js fun H0 x0 b0=>?_⟩;have z00:a7 z0 H0:=fun b o e=>b0 _ _ (hz _ _ e) (zne e)
  walk_at"";refine⟨_,_,ds,_,_,rfl,z00 _ _ S1,T.iP,T.ni,rfl,?_⟩;walk_at"";refine⟨_,rfl,by show-(2^62)<=((n:Nat):Int);omega,by show((n:Nat):Int)<2^62;omega,fun D hD=>?_⟩;rw[show(((LU n rc q rd ki sh).n:Nat):Int).toNat=n from bB n];have nxD:x≠D:=aR x0 hD;refine Xe (fun i H'=>∃g:Gh,g.z=z0/\U6 ad (LU n rc q rd ki sh) g i H0 H'/\a7 H0 H'/\H' D=some (.lst ((aG i).map fun j=>V.ref (g (.dn j))))/\(∀r,rB i r->g r≠D))
   ⟨⟨fun _=>0,z0⟩,rfl,⟨fun r r' h=>?_,fun r h=>?_,fun r h=>?_⟩,aP _ hD,ak,fun r h=>?_⟩ ?_ ?_
  ·cases r<;>first|exact h.elim|exact absurd h (fc _)
  ·cases r<;>first|exact h.elim|exact absurd h (fc _)
  ·cases r<;>first|exact h.elim|exact absurd h (fc _)
  ·cases r<;>first|exact h.elim|exact absurd h (fc _)
  ·rintro i H' hi ⟨g,gz,R,s1,mB,nD⟩;walk_at"";refine⟨rfl,?_⟩;walk_at"";refine oH ?_;walk_at"";intro y dy hy hdy amH;refine⟨y,dy,rfl,ak,fun H2 a b c d ha hb hc hd nd e1 e2 e3 e4 e5 b2=>⟨rfl,?_⟩⟩;have un:∀ {z:Addr},(upd (upd H' dy (.own y)) y (.ins ad.jf dy [])) z=none->H' z=none:=by
    intro z hz;by_cases e:z=y
    ·rw[e,ak]at hz;cases hz
    ·rw[cq e]at hz;by_cases e':z=dy
     ·rw[e',ak]at hz;cases hz
     ·rw[cq e']at hz;exact hz
   have s2:a7 H' H2:=a7.made hy hdy b2;have R2:=R.step (fun _=>rfl) (fun _=>rfl) (fun _=>rfl) (fun _=>rfl) s1 hy (un ha) (un hb) (un hc) (un hd) nd s2 e1 e2 e3 e4 e5;have hD2:=s2 _ _ mB;have tD:∀z,H' z=none->z≠D:=fun z hz e=>by rw[e,mB]at hz;cases hz
   have ga:∀r,rB (i+1) r->pz g i y a b c d r≠D:=fun r h=>by
    rcases h.cases with h|rfl|rfl|rfl|rfl|rfl
    ·rw[j4 h];exact nD r h
    ·rw[qW];exact tD _ hy
    ·rw[uk];exact tD _ (un ha)
    ·rw[qX];exact tD _ (un hb)
    ·rw[pw];exact tD _ (un hc)
    ·rw[qY];exact tD _ (un hd)
   refine⟨_,hD2,zg (by rw[ae,ba];omega),pz g i y a b c d,gz,?_,a7.put hD (s1.trans s2),?_,ga⟩
   ·refine⟨R2.inj,fun r h=>?_,R2.new⟩;obtain⟨o,h1,h2⟩:=R2.at_ r h;exact⟨o,aX (ga r h) h1,h2⟩
   ·rw[dj,aF];have e:(aG i).map (fun j=>V.ref (g (.dn j)))=(aG i).map fun j=>V.ref (pz g i y a b c d (.dn j)):=by
     apply bU
     intro j hj;rw[j4 (r:=.dn j) (bG.mp hj)]
    rw[e];show upd H2 D (.lst (_++[V.ref y])) D=some (.lst (_++[V.ref (pz g i y a b c d (.dn i))]));rw[qW];exact ak
  ·rintro H1 ⟨g,gz,R,s1,hD1,nD⟩;walk_at"";refine⟨x,_,dx,_,rfl,s1 _ _ x0,T.a6,T.c7,(by show 1<1000;decide),js fun H2 x2 b2=>?_⟩;have K2:∀b o,H0 b=some o->b≠x->H2 b=some o:=fun b o e hb=>b2 b o (s1 _ _ e) hb
   have z2:a7 z0 H2:=fun b o e=>K2 _ _ (z00 _ _ e) (zne e)
   walk_at"";refine⟨_,_,ds,_,_,rfl,z2 _ _ S1,T.iP,T.nh,rfl,?_⟩;walk_at"";refine⟨sa,rfl,⟨_,bW.of (z2 _ _ S4.lst)⟩,fun pl tQ=>?_⟩;refine k5 (xs:=ss.map V.ref) (fun j H'=>a7 H2 H'/\H' pl=some (.lst (((ss.take j).map fun _=>0).map nV))) ⟨aP _ tQ,ak⟩ (fun j H' _ h=>bW.of (h.1 _ _ (z2 _ _ S4.lst))) ?_ ?_
   ·rintro j y H' hy ⟨s6,hp6⟩;obtain⟨z,hz',rfl⟩:=get_map hy;walk_at"";refine⟨rfl,?_⟩;walk_at"";refine oH ?_;walk_at"";have Qk:j<sh.length:=by
     have:=S4.len;have:=(aw.mp hz').1;have e:(LU n rc q rd ki sh).sheets.length=sh.length:=rfl;omega
    refine⟨_,hp6,zg (by rw[ae,ae,bt];omega),a7.put tQ s6,?_⟩;rw[take_snoc hz',aF,aF];exact ak
   ·rintro H3 ⟨s3,NB⟩;rw[ae,bJ]at NB;have T9:x≠pl:=aR x2 tQ;walk_at"";refine⟨x,_,dx,_,rfl,s3 _ _ x2,T.a6,T.kI,(by show 2<1000;decide),js fun H4 x4 b4=>?_⟩;walk_at"";refine⟨x,_,dx,_,rfl,x4,T.a6,T.eU,(by show 3<1000;decide),js fun H5 x5 b5=>?_⟩;have B5:ye x H3 H5:=b4.trans b5;clear x4 b4 b5;walk_at"";refine⟨by decide,fun pi K1=>?_⟩;have W0:x≠pi:=aR x5 K1;walk_at"";refine⟨x,_,dx,_,rfl,bq K1 x5,T.a6,T.je,(by show 4<1000;decide),js fun H6 x6 b6=>?_⟩;have B6:ye x H5 H6:=fun b o e hb=>b6 _ _ (bq K1 e) hb
    have afy:H6 pi=some (.lst []):=b6 _ _ ak (bT W0);clear b6;walk_at"";refine⟨by decide,fun so Ie=>?_⟩;have WZ:x≠so:=aR x6 Ie;walk_at"";refine⟨x,_,dx,_,rfl,bq Ie x6,T.a6,T.gH,(by show 5<1000;decide),js fun H7 x7 b7=>?_⟩;have B7:ye x H6 H7:=fun b o e hb=>b7 _ _ (bq Ie e) hb
    have aid:H7 so=some (.lst []):=b7 _ _ ak (bT WZ);clear b7;have K3:∀b o,H2 b=some o->b≠x->H3 b=some o:=fun b o e _=>s3 b o e
    have K7:∀b o,H3 b=some o->b≠x->H7 b=some o:=fun b o e hb=>B7 _ _ (B6 _ _ (B5 _ _ e hb) hb) hb
    have K17:∀b o,H1 b=some o->b≠x->H7 b=some o:=fun b o e hb=>K7 _ _ (s3 _ _ (b2 _ _ e hb)) hb
    have hp7:H7 pl=some (.lst ((ss.map fun _=>0).map nV)):=K7 _ _ NB (bT T9);have air:=B7 _ _ afy (bT W0);have ajj:(ss.map fun _=>0)=sh.map fun _=>0:=by
     apply lI
     ·rw[ae,ae];exact S4.len
     ·intro i _ _;simp
    rw[ajj]at hp7;have gx:∀r,rB n r->g r≠x:=fun r h e=>by have:=R.new r h;rw[e,x0]at this;cases this
    have pl2:∀b o,H1 b=some o->b≠x->b≠pl:=fun b o e hb q=>by rw[q]at e hb;rw[b2 _ _ e hb]at tQ;cases tQ
    have pi5:∀b o,H3 b=some o->b≠x->b≠pi:=fun b o e hb q=>by rw[q]at e hb;rw[B5 _ _ e hb]at K1;cases K1
    have so6:∀b o,H5 b=some o->b≠x->b≠so:=fun b o e hb q=>by rw[q]at e hb;rw[B6 _ _ e hb]at Ie;cases Ie
    have to3:∀b o,H1 b=some o->b≠x->H3 b=some o:=fun b o e hb=>s3 _ _ (b2 _ _ e hb)
    have to5:∀b o,H3 b=some o->b≠x->H5 b=some o:=fun b o e hb=>B5 _ _ e hb
    have fresh:∀y∈[D,pl,pi,so],H0 y=none:=by
     intro y hy;simp only[aM,jE,or_false]at hy;cases e:H0 y with
     |none=>rfl
     |some o=>
      have yx:y=x\/y≠x:=Classical.em _;rcases hy with rfl|rfl|rfl|rfl
      ·rw[hD]at e;cases e
      ·exact absurd rfl (pl2 _ _ (s1 _ _ e) (bT T9))
      ·exact absurd rfl (pi5 _ _ (to3 _ _ (s1 _ _ e) (bT W0)) (bT W0))
      ·exact absurd rfl (so6 _ _ (to5 _ _ (to3 _ _ (s1 _ _ e) (bT WZ)) (bT WZ)) (bT WZ))
    have RS:U6 ad (LU n rc q rd ki sh) g n H0 H7:=by
     refine⟨R.inj,fun r h=>?_,R.new⟩;obtain⟨o,e1,e2⟩:=R.at_ r h;exact⟨o,K17 _ _ e1 (gx r h),e2⟩
    have z7:a7 z0 H7:=fun b o e=>K17 _ _ (s1 _ _ (z00 _ _ e)) (zne e)
    have R0:Rep ad (K8 g x D pl pi so) (LU n rc q rd ki sh) H7:=by
     refine Zx (dx:=dx) (su:=su) RS ?_ ?_ (by rw[gz];exact z00) (by rw[gz];exact z7) ?_ (by rw[gz];exact S) x7 (K17 _ _ hD1 (bT nxD)) hp7 air aid
     ·intro r h hm;simp only[aM,jE,or_false]at hm;obtain⟨o,e1,_⟩:=R.at_ r h;rcases hm with e|e|e|e|e
      ·exact gx r h e
      ·exact nD r h e
      ·exact pl2 _ _ e1 (gx r h) e
      ·exact pi5 _ _ (to3 _ _ e1 (gx r h)) (gx r h) e
      ·exact so6 _ _ (to5 _ _ (to3 _ _ e1 (gx r h)) (gx r h)) (gx r h) e
     ·have hD3:=to3 _ _ hD1 (bT nxD);simp only[cB,aM,jE,or_false,not_or,not_false_eq_true,eI,and_true];exact⟨⟨nxD,T9,W0,WZ⟩,⟨pl2 _ _ hD1 (bT nxD),pi5 _ _ hD3 (bT nxD),so6 _ _ (to5 _ _ hD3 (bT nxD)) (bT nxD)⟩,⟨pi5 _ _ NB (bT T9),so6 _ _ (to5 _ _ NB (bT T9)) (bT T9)⟩,fun e=>by rw[<-e]at Ie;rw[afy]at Ie;cases Ie⟩
     ·intro y hy;rw[gz];rcases aM.mp hy with rfl|hy
      ·exact zx
      ·cases e:z0 y with
       |none=>rfl
       |some o=>have:=fresh y hy;rw[z00 _ _ e]at this;cases this
    have Wp:∀r,iG (LU n rc q rd ki sh) r->K8 g x D pl pi so r=x\/H0 (K8 g x D pl pi so r)=none:=by
     intro r h;rcases xm h with h|rfl|rfl|rfl|rfl|rfl
     ·rw[Am h];exact .inr (R.new r h)
     ·exact .inl rfl
     ·exact .inr (fresh D (by simp))
     ·exact .inr (fresh pl (by simp))
     ·exact .inr (fresh pi (by simp))
     ·exact .inr (fresh so (by simp))
    have h0n:∀ {b},H0 b=none->H b=none:=fun{b} e=>by
     cases e':H b with
     |none=>rfl
     |some o=>
      by_cases q:b=x
      ·rw[q,x0]at e;cases e
      ·rw[b0 _ _ e' q]at e;cases e
    have h7n:∀ {b},H7 b=none->H b=none:=fun{b} e=>by
     apply h0n
     cases e':H0 b with
     |none=>rfl
     |some o=>
      by_cases q:b=x
      ·rw[q,x7]at e;cases e
      ·rw[K17 _ _ (s1 _ _ e') q]at e;cases e
    walk_at"";refine⟨_,dx,_,rfl,x7,rfl,?_⟩;walk_at"";refine⟨K8 g x D pl pi so,LU n rc q rd ki sh,rfl,R0,oi,hn8,bK _,bK _,fun H8 g8 R8 F8 st8=>?_⟩;refine k H8 g8 R8 (st8 .dr (fun h=>h)) (by have:=F8.zs;rw[show(K8 g x D pl pi so).z=z0 from gz]at this;exact this) (fun b o e hb=>?_) (fun r h=>?_) (fun b hb=>?_)
    ·refine F8.out b o (K17 _ _ (s1 _ _ (b0 _ _ e hb)) hb) fun r h q=>?_
     rcases Wp r h with e'|e'
     ·exact hb (q.symm.trans e')
     ·rw[q]at e';rw[h0n e']at e;cases e
    ·rcases F8.new r h with ⟨h1,h2⟩|h2|⟨r0,h1,h2⟩
     ·rw[h2];rcases Wp r h1 with e'|e'
      ·exact .inl e'
      ·exact .inr (h0n e')
     ·exact .inr (h7n h2)
     ·rw[h2];rcases Wp r0 h1 with e'|e'
      ·exact .inl e'
      ·exact .inr (h0n e')
    ·rcases F8.zn b hb with h1|h1
     ·exact .inl (by rw[show(K8 g x D pl pi so).z=z0 from gz]at h1;exact h1)
     ·exact .inr (h7n h1)
def qr(x most:Int)(n:Nat):Int:=if wi 0 (most-1) x=true then(if (n:Int)<=x then-2 else 0)else-1
def acg:Sp:=fun vs H Q _=>E3 fun(x most:Int) (n:Nat)=>vs=[.int x,.int most,.int (n:Int)]/\Q (.int (qr x most n)) H
theorem qS(T:Txt K mg ad):cF P w K mg base iC 2 ad.sD ad.sM ["number","most","how_many"] acg:=by
 refine T.gd.F.ok zO (by rintro _ _ _ _ ⟨x,mo,n,rfl,_⟩;rfl) (fun _ A _ s H vs Q E hr h=>?_)
 ·obtain⟨x,mo,n,rfl,k⟩:=h;unfold qr at k;refine⟨_,(aC (i6 (oB (kF (bF (iY T) hr.mono rfl T.cE.g T.cE.F.kp T.cE.b .nil bp (af (pv 0) (af aS (af (gF CK (pv 1) aS) ay))))))
   (aJ (bj (bS rfl T.jw)))
   eZ)
   (aC (i6 (eP ae9 (pv 0) (pv 2) (fP _))
   (aJ (bj (bS rfl T.Ei)))
   eZ)
   (aJ (bj (bS rfl T.jS))))),?_⟩
  walk_at"";refine⟨_,_,_,rfl,?_⟩;walk_at"";refine ik (fun c=>?_) fun c=>?_
  ·have c:wi 0 (mo-1) x=false:=by rw[aT]at c;exact c
   rw[c,if_neg (by decide)]at k;walk_at"";exact k
  ·have c:wi 0 (mo-1) x=true:=by rw[aT,gy]at c;exact c
   rw[c,if_pos rfl]at k;walk_at"";refine ik (fun c2=>?_) fun c2=>?_
   ·rw[if_pos (of_decide_eq_true c2)]at k;walk_at"";exact k
   ·rw[if_neg (by simpa using c2)]at k;walk_at"";exact k
def gL(a:List Int):Int:=a.getD 0 0
theorem lX{a:List Int}(h:1<=a.length):JL (a.map V.int) 0=some (.int (gL a)):=by
 cases a with
 |nil=>exact absurd h (by decide)
 |cons i a=>exact ya (by decide) rfl
structure Yt(m:DM)(r:List Int):Prop where
 rN:Fv m
 tk:0<m.n->0<m.takes
 ne:∀j,j<m.n->∀p∈m.queues j,p.cards≠ []
 rl:r.length<=100000
def y2(ad:Ad)(k:Nat)(f:DM->List Int->List Int->Int):Sp:=fun vs H Q _=>E5 fun(g:Gh) (m:DM) (cx:Addr) (p:Nat) (a:List Int)=>∃r:List Int,A6 (vs=[.ref (g .dr),.ref cx]) (Rep ad g m H) (vm ad H cx p a r) (Yt m r) (k<=a.length) (∀H',a7 H H'->Q (.int (f m a r)) H')
theorem xa(T:Txt K mg ad):cF P w K mg base iC 1 ad.kK ad.Hk ["draft","call"] (y2 ad 0 fun _ _ _=>0):=by
 refine T.l5.F.ok MB (by rintro _ _ _ _ ⟨g,m,cx,p,a,r,rfl,_⟩;rfl) (fun _ A _ s H vs Q E hr h=>?_)
 ·obtain⟨g,m,cx,p,a,r,rfl,R,ca,ri,ha,k⟩:=h;refine⟨_,(aJ (bj (bS rfl T.jS))),?_⟩;walk_at"";exact k H (a7.refl _)
def cS(n:Nat)(i:Int):Int:=if wi 0 7 i=true then(if (n:Int)<=i then-2 else 0)else-1
theorem oy{n:Nat}{i:Int}(h:cS n i=0):0<=i/\i.toNat<n/\i<=7:=by
 unfold cS at h;split at h
 ·rename_i e;have e:=Ma.gj.mp e;split at h
  ·cases h
  ·omega
 ·cases h
theorem fF(T:Txt K mg ad):cF P w K mg base iC 3 ad.cY ad.xK ["draft","call"] (y2 ad 1 fun m a _=>cS m.n (gL a)):=by
 refine T.bX.F.ok Es (by rintro _ _ _ _ ⟨g,m,cx,p,a,r,rfl,_⟩;rfl) (fun _ A _ s H vs Q E hr h=>?_)
 ·obtain⟨g,m,cx,p,a,r,rfl,R,ca,ri,ha,k⟩:=h;dsimp only at k;obtain⟨dc,na,ra,hx,rL,pW⟩:=ca.ex;obtain⟨dx,su,hd,_⟩:=R.gk;have Az:H (g .seats)=_:=R.lst (r:=.seats) trivial fun _ e=>e
  refine⟨_,(aJ (bj (bF (qS T) hr.mono rfl T.gd.g T.gd.F.kp T.gd.b .nil bp (af (eB cj (aQ (pv 1) rfl) aS (fun _ _=>rfl)) (af (bS rfl T.BM) (af (bH bg (by rfl) T.jx aV (af (aQ (pv 0) rfl) ay)) ay)))))),?_⟩;walk_at"";refine⟨_,_,dc,_,_,rfl,hx,T.dW,T.cX,rfl,?_⟩;walk_at"";refine eO (bW.of rL) (lX ha) ?_;walk_at"";refine⟨_,_,dx,_,_,rfl,hd,T.a6,T.c7,rfl,?_⟩;walk_at"";refine⟨_,_,rfl,.inl (bW.of Az),?_⟩;rw[ae,ba];walk_at"";exact⟨_,_,m.n,rfl,k H (a7.refl _)⟩
def jN(m:DM)(i:Int):Int:=if cS m.n i=0/\m.queues i.toNat=[]then-4 else cS m.n i
theorem w9(T:Txt K mg ad):cF P w K mg base iC 4 ad.oY ad.zy ["draft","call"] (y2 ad 1 fun m a _=>jN m (gL a)):=by
 refine T.j2.F.ok wC (by rintro _ _ _ _ ⟨g,m,cx,p,a,r,rfl,_⟩;rfl) (fun _ A _ s H vs Q E hr h=>?_)
 ·obtain⟨g,m,cx,p,a,r,rfl,R0,ca0,ri,ha,k0⟩:=h;dsimp only at k0;unfold jN at k0;refine⟨_,(aC (cf (i:=2) wC.nd rfl (be rfl) (bF (fF T) hr.mono rfl T.bX.g T.bX.F.kp T.bX.b .nil bp (af (pv 0) (af (pv 1) ay))))
   (aC (i6 (PW.pt (Kv (eP vC (pv 2) (bS rfl T.jS) (fP _)) (Ff (eP vC (bH bg (by rfl) T.jx aV (af (aQ (eB cj (aQ (pv 0) rfl) (eB cj (aQ (pv 1) rfl) aS (fun _ _=>rfl)) (fun _ _=>rfl)) rfl) ay)) aS (fP _)))))
   (aJ (bj (bS rfl T.US)))
   eZ)
   (aJ (bj (pv 2))))),?_⟩
  walk_at"";refine⟨g,m,cx,p,a,r,rfl,R0,ca0,ri,ha,fun H1 s1=>?_⟩;have R:=R0.same s1;have k:∀H',a7 H1 H'->_:=fun H' s'=>k0 H' (s1.trans s')
  have ca:=ca0.same s1;clear R0 ca0 k0 s1;obtain⟨dc,na,ra,hx,rL,pW⟩:=ca.ex;obtain⟨dx,su,hd,_⟩:=R.gk;have Az:H1 (g .seats)=_:=R.lst (r:=.seats) trivial fun _ e=>e
  walk_at"";refine ik (fun c=>?_) fun c=>?_
  ·have c:cS m.n (gL a)=0:=of_decide_eq_true c;obtain⟨h0,hi,_⟩:=oy c;obtain⟨ds,hs⟩:=R.dn hi;have k7:=R.row hi;have ei:gL a=(((gL a).toNat:Nat):Int):=by omega
   walk_at"";refine⟨_,_,dx,_,_,rfl,hd,T.a6,T.c7,rfl,?_⟩;walk_at"";refine⟨_,_,dc,_,_,rfl,hx,T.dW,T.cX,rfl,?_⟩;walk_at"";refine eO (bW.of rL) (lX ha) ?_;rw[ei];refine eO (bW.of Az) (uC hi) ?_;refine⟨_,_,ds,_,_,rfl,hs,T.cT,T.fh,rfl,?_⟩;walk_at"";refine⟨_,_,rfl,.inl (bW.of k7),?_⟩;walk_at"";rw[ae];refine ik (fun c2=>?_) fun c2=>?_
   ·have c2:=of_decide_eq_true c2;have e0:m.queues (gL a).toNat=[]:=jH.mp (by omega);rw[if_pos ⟨c,e0⟩]at k;walk_at"";exact k H1 (a7.refl _)
   ·have c2:¬(((m.queues (gL a).toNat).length:Nat):Int)=0:=by simpa using c2
    have e0:¬m.queues (gL a).toNat=[]:=fun e=>c2 (by rw[e];rfl)
    rw[if_neg (fun h=>e0 h.2)]at k;walk_at"";exact k H1 (a7.refl _)
  ·have c:¬cS m.n (gL a)=0:=by simpa using c
   rw[if_neg (fun h=>c h.1)]at k;refine EF ?_;walk_at"";exact k H1 (a7.refl _)
def fH(m:DM)(i:Int):Int:=if cS m.n i=0/\m.round=m.rounds then-3 else jN m i
theorem vD(T:Txt K mg ad):cF P w K mg base iC 5 ad.nA ad.xO ["draft","call"] (y2 ad 1 fun m a _=>fH m (gL a)):=by
 refine T.jt.F.ok vt (by rintro _ _ _ _ ⟨g,m,cx,p,a,r,rfl,_⟩;rfl) (fun _ A _ s H vs Q E hr h=>?_)
 ·obtain⟨g,m,cx,p,a,r,rfl,R0,ca0,ri,ha,k0⟩:=h;dsimp only at k0;unfold fH at k0;refine⟨_,(aC (cf (i:=2) vt.nd rfl (be rfl) (bF (fF T) hr.mono rfl T.bX.g T.bX.F.kp T.bX.b .nil bp (af (pv 0) (af (pv 1) ay))))
   (aC (i6 (PW.pt (Kv (eP vC (pv 2) (bS rfl T.jS) (fP _)) (Ff (kF (gf (pv 0) T.a6 T.ia.m (oF T) hr.mono T.ia.b .nil bp)))))
   (aJ (bj (bS rfl T.Ls)))
   eZ)
   (aJ (bj (bF (w9 T) hr.mono rfl T.j2.g T.j2.F.kp T.j2.b .nil bp (af (pv 0) (af (pv 1) ay))))))),?_⟩
  walk_at"";refine⟨g,m,cx,p,a,r,rfl,R0,ca0,ri,ha,fun H1 s1=>?_⟩;have R:=R0.same s1;have k:∀H',a7 H1 H'->_:=fun H' s'=>k0 H' (s1.trans s')
  have ca:=ca0.same s1;clear R0 ca0 k0 s1;obtain⟨dx,su,hd,_⟩:=R.gk;walk_at"";refine ik (fun c=>?_) fun c=>?_
  ·have c':cS m.n (gL a)=0:=of_decide_eq_true c;walk_at"";refine⟨_,dx,_,rfl,hd,rfl,?_⟩;walk_at"";refine⟨g,m,rfl,R,?_⟩;walk_at"";refine ik (fun c2=>?_) fun c2=>?_
   ·rw[if_pos ⟨c',of_decide_eq_true c2⟩]at k;walk_at"";exact k H1 (a7.refl _)
   ·rw[if_neg (fun h=>by rw[decide_eq_true h.2]at c2;exact c2 rfl)]at k;walk_at"";exact⟨g,m,cx,p,a,r,rfl,R,ca,ri,ha,k⟩
  ·have c':¬cS m.n (gL a)=0:=by simpa using c
   rw[if_neg (fun h=>c' h.1)]at k;refine EF ?_;walk_at"";exact⟨g,m,cx,p,a,r,rfl,R,ca,ri,ha,k⟩
def Fb(m:DM)(i:Int):Int:=qr i 64 m.kinds.length
theorem Ey(T:Txt K mg ad):cF P w K mg base iC 3 ad.nv ad.xJ ["draft","call"] (y2 ad 1 fun m a _=>Fb m (gL a)):=by
 refine T.qC.F.ok Er (by rintro _ _ _ _ ⟨g,m,cx,p,a,r,rfl,_⟩;rfl) (fun _ A _ s H vs Q E hr h=>?_)
 ·obtain⟨g,m,cx,p,a,r,rfl,R,ca,ri,ha,k⟩:=h;dsimp only at k;obtain⟨dc,na,ra,hx,rL,pW⟩:=ca.ex;obtain⟨dx,su,ds,rca,ka,sa,ss,hd,Z9,hrc,hk,hsh,_,_⟩:=R.setup;obtain⟨as,hka,hal,_⟩:=hk.ex;refine⟨_,(aJ (bj (bF (qS T) hr.mono rfl T.gd.g T.gd.F.kp T.gd.b .nil bp (af (eB cj (aQ (pv 1) rfl) aS (fun _ _=>rfl)) (af (bS rfl T.BL) (af (bH bg (by rfl) T.jx aV (af (aQ (aQ (pv 0) rfl) rfl) ay)) ay)))))),?_⟩;walk_at"";refine⟨_,_,dc,_,_,rfl,hx,T.dW,T.cX,rfl,?_⟩;walk_at"";refine eO (bW.of rL) (lX ha) ?_;walk_at"";refine⟨_,_,dx,_,_,rfl,hd,T.a6,T.f9,rfl,?_⟩;refine⟨_,_,ds,_,_,rfl,Z9,T.iP,T.tK,rfl,?_⟩;walk_at"";refine⟨_,_,rfl,.inl (bW.of hka),?_⟩;rw[ae,hal];walk_at"";exact⟨_,_,m.kinds.length,rfl,k H (a7.refl _)⟩
def qu(m:DM)(i:Int):Int:=if wi 1 1000 i=true then(if (m.picks.length:Int)<i then-5 else 0)else-1
theorem EC(T:Txt K mg ad):cF P w K mg base iC 3 ad.nB ad.xQ ["draft","call"] (y2 ad 1 fun m a _=>qu m (gL a)):=by
 refine T.qE.F.ok vw (by rintro _ _ _ _ ⟨g,m,cx,p,a,r,rfl,_⟩;rfl) (fun _ A _ s H vs Q E hr h=>?_)
 ·obtain⟨g,m,cx,p,a,r,rfl,R,ca,ri,ha,k⟩:=h;dsimp only at k;obtain⟨dc,na,ra,hx,rL,pW⟩:=ca.ex;obtain⟨dx,su,hd,_⟩:=R.gk;obtain⟨as,K1,pa⟩:=R.picks;have hl:as.length=m.picks.length:=Paired.len pa;unfold qu at k;refine⟨_,(aC (cf (i:=2) vw.nd rfl (be rfl) (eB cj (aQ (pv 1) rfl) aS (fun _ _=>rfl)))
   (aC (i6 (oB (kF (bF (iY T) hr.mono rfl T.cE.g T.cE.F.kp T.cE.b .nil bp (af (pv 2) (af aS (af aS ay))))))
   (aJ (bj (bS rfl T.jw)))
   eZ)
   (aC (i6 (eP zc (pv 2) (bH bg (by rfl) T.jx aV (af (aQ (pv 0) rfl) ay)) (fP _))
   (aJ (bj (bS rfl T.EM)))
   eZ)
   (aJ (bj (bS rfl T.jS)))))),?_⟩
  walk_at"";refine⟨_,_,dc,_,_,rfl,hx,T.dW,T.cX,rfl,?_⟩;walk_at"";refine eO (bW.of rL) (lX ha) ?_;walk_at"";refine⟨_,_,_,rfl,?_⟩;walk_at"";refine ik (fun c=>?_) fun c=>?_
  ·have c:wi 1 1000 (gL a)=false:=by rw[aT]at c;exact c
   rw[c,if_neg (by decide)]at k;walk_at"";exact k H (a7.refl _)
  ·have c:wi 1 1000 (gL a)=true:=by rw[aT,gy]at c;exact c
   rw[c,if_pos rfl]at k;walk_at"";refine⟨_,_,dx,_,_,rfl,hd,T.a6,T.je,rfl,?_⟩;walk_at"";refine⟨_,_,rfl,.inl (bW.of K1),?_⟩;rw[ae,hl];walk_at"";refine ik (fun c2=>?_) fun c2=>?_
   ·rw[if_pos (of_decide_eq_true c2)]at k;walk_at"";exact k H (a7.refl _)
   ·rw[if_neg (by simpa using c2)]at k;walk_at"";exact k H (a7.refl _)
def mV(i:Int):Int:=if wi 0 3 i=true then 0 else-1
theorem CL(T:Txt K mg ad):cF P w K mg base iC 3 ad.lV ad.vI ["draft","call"] (y2 ad 1 fun _ a _=>mV (gL a)):=by
 refine T.pH.F.ok Co (by rintro _ _ _ _ ⟨g,m,cx,p,a,r,rfl,_⟩;rfl) (fun _ A _ s H vs Q E hr h=>?_)
 ·obtain⟨g,m,cx,p,a,r,rfl,R,ca,ri,ha,k⟩:=h;dsimp only at k;obtain⟨dc,na,ra,hx,rL,pW⟩:=ca.ex;unfold mV at k;refine⟨_,(aC (i6 (oB (kF (bF (iY T) hr.mono rfl T.cE.g T.cE.F.kp T.cE.b .nil bp (af (eB cj (aQ (pv 1) rfl) aS (fun _ _=>rfl)) (af aS (af aS ay))))))
   (aJ (bj (bS rfl T.jw)))
   eZ)
   (aJ (bj (bS rfl T.jS)))),?_⟩
  walk_at"";refine⟨_,_,dc,_,_,rfl,hx,T.dW,T.cX,rfl,?_⟩;walk_at"";refine eO (bW.of rL) (lX ha) ?_;walk_at"";refine⟨_,_,_,rfl,?_⟩;walk_at"";refine ik (fun c=>?_) fun c=>?_
  ·have c:wi 0 3 (gL a)=false:=by rw[aT]at c;exact c
   rw[c,if_neg (by decide)]at k;walk_at"";exact k H (a7.refl _)
  ·have c:wi 0 3 (gL a)=true:=by rw[aT,gy]at c;exact c
   rw[c,if_pos rfl]at k;walk_at"";exact k H (a7.refl _)
def j3(m:DM)(r:List Int):Int:=if r.length<=20000/\r.all (wi 0 255)=true then(if m.n=0 then-2 else 0)else-1
theorem Bd(T:Txt K mg ad):cF P w K mg base iC 3 ad.k9 ad.uw ["draft","call"] (y2 ad 0 fun m _ r=>j3 m r):=by
 refine T.ot.F.ok AU (by rintro _ _ _ _ ⟨g,m,cx,p,a,r,rfl,_⟩;rfl) (fun _ A _ s H vs Q E hr h=>?_)
 ·obtain⟨g,m,cx,p,a,r,rfl,R,ca,ri,ha,k⟩:=h;dsimp only at k;obtain⟨dc,na,ra,hx,rL,pW⟩:=ca.ex;unfold j3 at k;refine⟨_,(aC (i6 (PW.pt (IU (eP zc (bH bg (by rfl) T.jx aV (af (aQ (pv 1) rfl) ay)) (bS rfl T.Lr) (fP _)) (Cv (oB (kF (bF (jd T) hr.mono rfl T.cC.g T.cC.F.kp T.cC.b .nil bp (af (aQ (pv 1) rfl) (af aS (af aS ay)))))))))
   (aJ (bj (bS rfl T.jw)))
   eZ)
   (aC (i6 (eP vC (bH bg (by rfl) T.jx aV (af (aQ (pv 0) rfl) ay)) aS (fP _))
   (aJ (bj (bS rfl T.Ei)))
   eZ)
   (aJ (bj (bS rfl T.jS))))),?_⟩
  walk_at"";refine⟨_,_,dc,_,_,rfl,hx,T.dW,T.gI,rfl,?_⟩;walk_at"";refine⟨_,_,rfl,.inl (bW.of pW),?_⟩;rw[ae];walk_at"";refine ik (fun c=>?_) fun c=>?_
  ·have c:(20000:Int)<(r.length:Int):=of_decide_eq_true c;rw[if_neg (fun h=>by have:=h.1;omega)]at k;refine oH ?_;walk_at"";exact k H (a7.refl _)
  ·have c:¬(20000:Int)<(r.length:Int):=by simpa using c
   walk_at"";refine⟨_,_,dc,_,_,rfl,hx,T.dW,T.gI,rfl,?_⟩;walk_at"";refine⟨ra,_,_,r,rfl,bW.of pW,ri.rl,fun H1 s1=>?_⟩;walk_at"";refine ik (fun c2=>?_) fun c2=>?_
   ·have c2:r.all (wi 0 255)=false:=by rw[aT]at c2;exact c2
    rw[if_neg (fun h=>by rw[c2]at h;exact absurd h.2 (by decide))]at k;walk_at"";exact k H1 s1
   ·have c2:r.all (wi 0 255)=true:=by rw[aT,gy]at c2;exact c2
    rw[if_pos ⟨by omega,c2⟩]at k;have R1:=R.same s1;obtain⟨dx,su,hd,_⟩:=R1.gk;have Az:H1 (g .seats)=_:=R1.lst (r:=.seats) trivial fun _ e=>e
    walk_at"";refine⟨_,_,dx,_,_,rfl,hd,T.a6,T.c7,rfl,?_⟩;walk_at"";refine⟨_,_,rfl,.inl (bW.of Az),?_⟩;rw[ae,ba];walk_at"";refine ik (fun c3=>?_) fun c3=>?_
    ·have c3:=of_decide_eq_true c3;rw[if_pos (by omega)]at k;walk_at"";exact k H1 s1
    ·have c3:¬(m.n:Int)=0:=by simpa using c3
     rw[if_neg (by omega)]at k;walk_at"";exact k H1 s1
theorem C3(f:Nat->Int):∀n,(dI f n).length<=n/\(∀x,x∈dI f n↔x∈(aG n).map f)/\((dI f n).length=n↔((aG n).map f).Nodup)
 |0=>⟨ao _,fun x=>by simp[BZ],by simp[BZ]⟩
 |n+1=>by
  obtain⟨h1,h2,h3⟩:=C3 f n;have mm:((dI f n).any (· ==f n)=true)↔f n∈(aG n).map f:=by
   rw[dg,<-h2];constructor
   ·rintro⟨x,hx,e⟩;rw[<-eq_of_beq e];exact hx
   ·intro h;exact⟨_,h,beq_self_eq_true _⟩
  have nds:((aG (n+1)).map f).Nodup↔((aG n).map f).Nodup/\f n∉(aG n).map f:=by
   rw[dj,aF];constructor
   ·intro h;have h:=gw.mp h;exact⟨h.1,fun m=>h.2.2 _ m _ ah rfl⟩
   ·rintro⟨a,b⟩;exact Ac a b
  rw[Vh];unfold QW;by_cases c:(dI f n).any (· ==f n)=true
  ·rw[if_pos c];refine⟨by omega,fun x=>?_,?_⟩
   ·rw[h2,dj,aF,aH];constructor
    ·exact .inl
    ·rintro(h|h)
     ·exact h
     ·rw[aN.mp h];exact mm.mp c
   ·rw[nds];constructor
    ·intro e;omega
    ·rintro⟨_,b⟩;exact absurd (mm.mp c) b
  ·rw[if_neg c];refine⟨by rw[ai];simp;omega,fun x=>?_,?_⟩
   ·rw[aH,h2,dj,aF,aH];rfl
   ·rw[nds,<-h3,ai];simp only[az,kn];constructor
    ·intro e;exact⟨by omega,fun m=>c (mm.mpr m)⟩
    ·rintro⟨a,_⟩;omega
theorem Rk(ns:List Int):(dI (fun i=>ns.getD i 0) ns.length).length=ns.length↔ns.Nodup:=by
 rw[(C3 (fun i=>ns.getD i 0) ns.length).2.2];have:(aG ns.length).map (fun i=>ns.getD i 0)=ns:=by
  apply lI
  ·simp
  ·intro i h1 h2;rw[jJ,mJ,Ma.getD_in h2]
 rw[this]
def Br(m:DM)(p:bA)(ns:List Int):Bool:=decide (ns.length=min m.takes p.cards.length)&&(decide ns.Nodup&&ns.all fun z=>decide (z<(p.cards.length:Int)))
def aci(K:aq)(ad:Ad):Sp:=fun vs H Q _=>E5 fun(g:Gh) (m:DM) (i:Nat) (p:bA) (r:List bA)=>E2 fun(a:Addr) (ns:List Int)=>A8 (vs=[.ref (g .dr),.int (i:Int),.ref a]) (Rep ad g m H) (Fv m) (i<m.n) (m.queues i=p::r) (bW K H a (ns.map V.int)) (ns.length<1000) (A3 (0<m.takes) (p.cards≠ []) (∀H',a7 H H'->Q (.bl (Br m p ns)) H'))
theorem ZQ(T:Txt K mg ad):cF P w K mg base iC 2 ad.XT ad.X9 ["draft","i","places"] (aci K ad):=by
 refine T.J2.F.ok Zv (by rintro _ _ _ _ ⟨g,m,i,p,r,a,ns,rfl,_⟩;rfl) (fun _ A _ s H vs Q E hr h=>?_)
 ·obtain⟨g,m,i,p,r,a,ns,rfl,R,rN,hi,hq,hS,hl,ht,j1,k⟩:=h;obtain⟨dx,su,hd,_⟩:=R.gk;unfold Br at k;refine⟨_,(aC (i6 (PW.pt (IU (eP RH (bH bg (by rfl) T.jx aV (af (pv 2) ay)) (gg (pv 0) T.a6 T.o6.m (Bf T) hr.mono T.o6.b .nil bp (af (pv 1) ay)) (fP _)) (Cv (eP RH (bH Ii (by rfl) T.jx aV (af (kY (oJ rfl) (by rfl) T.QE gu (af (pv 2) ay)) ay)) (bH bg (by rfl) T.jx aV (af (pv 2) ay)) (fP _)))))
   (aJ (bj WM))
   eZ)
   (aJ (bj (yy RI (bH (adR rfl) (by rfl) T.ajB PyProof.Rows.boot_max (af (pv 2) ay)) (bH bg (by rfl) T.jx aV (af (aQ (eB cj (aQ (eB cj (aQ (pv 0) rfl) (pv 1) (fun _ _=>rfl)) rfl) aS (fun _ _=>rfl)) rfl) ay)) (fP _))))),?_⟩
  walk_at"";refine⟨a,_,rfl,.inl hS,?_⟩;rw[ae];walk_at"";refine⟨_,dx,_,rfl,hd,rfl,?_⟩;walk_at"";refine⟨g,m,i,p,r,rfl,R,rN,hi,hq,?_⟩;walk_at"";refine ik (fun c=>?_) fun c=>?_
  ·have c:¬((ns.length:Int)=((min m.takes p.cards.length:Nat):Int)):=by simpa using c
   rw[decide_eq_false (show ¬ns.length=min m.takes p.cards.length by omega),ly]at k;refine oH ?_;walk_at"";exact k H (a7.refl _)
  ·have c:(ns.length:Int)=((min m.takes p.cards.length:Nat):Int):=by simpa using c
   rw[decide_eq_true (show ns.length=min m.takes p.cards.length by omega),fO]at k;have Uv:0<ns.length:=by
    have:0<p.cards.length:=iF.mpr j1;omega
   walk_at"";refine⟨a,ns,rfl,hS,by omega,fun sa hsa=>?_⟩;have s1:a7 H (upd H sa (mC P w sa (dI (fun i=>ns.getD i 0) ns.length))):=aP _ hsa;walk_at"";refine⟨sa,_,rfl,ak,?_⟩;walk_at"";refine⟨a,_,rfl,.inl (s1.seq hS),?_⟩;rw[ae];walk_at"";have R1:=R.same s1;refine ik (fun c2=>?_) fun c2=>?_
   ·have c2:¬(((dI (fun i=>ns.getD i 0) ns.length).length:Int)=(ns.length:Int)):=by simpa using c2
    rw[decide_eq_false (fun h=>c2 (by rw[(Rk ns).mpr h])),ly]at k;walk_at"";exact k _ s1
   ·have c2:((dI (fun i=>ns.getD i 0) ns.length).length:Int)=(ns.length:Int):=by simpa using c2
    rw[decide_eq_true ((Rk ns).mp (by omega)),fO]at k;obtain⟨d1,su1,YW,_⟩:=R1.gk;have Az:=R1.lst (r:=.seats) (xs:=(aG m.n).map fun i=>V.ref (g (.dn i))) trivial fun _ e=>e
    obtain⟨ds,hs⟩:=R1.dn hi;have k7:=R1.row hi;rw[hq]at k7;have Jr:m.pk p.origin=some p:=rN i hi p (by rw[hq];exact ah);obtain⟨dp,ca,hp,hc,_⟩:=R1.pack Jr;walk_at"";refine⟨a,ns,rfl,s1.seq hS,Uv,fun z hz aiA=>?_⟩;walk_at"";refine⟨_,_,d1,_,_,rfl,YW,T.a6,T.c7,rfl,?_⟩;walk_at"";refine eO (bW.of Az) (uC hi) ?_;refine⟨_,_,ds,_,_,rfl,hs,T.cT,T.fh,rfl,?_⟩;walk_at"";refine eO (bW.of k7) Oh ?_;refine⟨_,_,dp,_,_,rfl,hp,T.fk,T.eA,rfl,?_⟩;walk_at"";refine⟨_,_,rfl,.inl (bW.of hc),?_⟩;rw[ae];walk_at"";have e:decide (z<((p.cards.length:Nat):Int))=ns.all fun z=>decide (z<(p.cards.length:Int)):=by
     cases ea:ns.all fun z=>decide (z<(p.cards.length:Int))with
     |true=>exact bD.mp ea z hz
     |false=>
      obtain⟨y,hy,hn⟩:=Eo.mp ea;have:=aiA y hy;have hn:¬y<(p.cards.length:Int):=by simpa using hn
      exact decide_eq_false (by omega)
    rw[e];exact k _ s1
def XS(m:DM)(ns:List Int):List bA->Bool
 |p::_=>Br m p ns
 |[]=>true
def kg(m:DM)(i:Int)(ns:List Int):Int:=if ns.length<=3/\ns.all (wi 0 19)=true then(if fH m i=0/\XS m ns (m.queues i.toNat)=false then-5 else fH m i)else-1
theorem P2{m:DM}{i:Int}(h:fH m i=0):0<=i/\i.toNat<m.n/\∃p r,m.queues i.toNat=p::r:=by
 unfold fH jN at h;split at h
 ·cases h
 ·split at h
  ·cases h
  ·rename_i e2;obtain⟨h0,hi,_⟩:=oy h;refine⟨h0,hi,?_⟩;cases q:m.queues i.toNat with
   |nil=>exact absurd ⟨h,q⟩ e2
   |cons p r=>exact⟨p,r,rfl⟩
theorem Ez(T:Txt K mg ad):cF P w K mg base iC 6 ad.ny ad.xM ["draft","call"] (y2 ad 1 fun m a r=>kg m (gL a) r):=by
 refine T.qD.F.ok vq (by rintro _ _ _ _ ⟨g,m,cx,p,a,r,rfl,_⟩;rfl) (fun _ A _ s H vs Q E hr h=>?_)
 ·obtain⟨g,m,cx,pl,a,ns,rfl,R,ca,ri,ha,k⟩:=h;dsimp only at k;obtain⟨dc,na,ra,hx,rL,pW⟩:=ca.ex;unfold kg at k;refine⟨_,(aC (i6 (PW.pt (IU (eP zc (bH bg (by rfl) T.jx aV (af (aQ (pv 1) rfl) ay)) aS (fP _)) (Cv (oB (kF (bF (jd T) hr.mono rfl T.cC.g T.cC.F.kp T.cC.b .nil bp (af (aQ (pv 1) rfl) (af aS (af aS ay)))))))))
   (aJ (bj (bS rfl T.jw)))
   eZ)
   (aC (cf (i:=2) vq.nd rfl (be rfl) (bF (vD T) hr.mono rfl T.jt.g T.jt.F.kp T.jt.b .nil bp (af (pv 0) (af (pv 1) ay))))
   (aC (i6 (PW.pt (Kv (eP vC (pv 2) (bS rfl T.jS) (fP _)) (Ff (oB (kF (bF (ZQ T) hr.mono rfl T.J2.g T.J2.F.kp T.J2.b .nil bp (af (pv 0) (af (eB cj (aQ (pv 1) rfl) aS (fun _ _=>rfl)) (af (aQ (pv 1) rfl) ay)))))))))
   (aJ (bj (bS rfl T.Ht)))
   eZ)
   (aJ (bj (pv 2)))))),?_⟩
  walk_at"";refine⟨_,_,dc,_,_,rfl,hx,T.dW,T.gI,rfl,?_⟩;walk_at"";refine⟨_,_,rfl,.inl (bW.of pW),?_⟩;rw[ae];walk_at"";refine ik (fun c=>?_) fun c=>?_
  ·have c:(3:Int)<(ns.length:Int):=of_decide_eq_true c;rw[if_neg (fun h=>by have:=h.1;omega)]at k;refine oH ?_;walk_at"";exact k H (a7.refl _)
  ·have c:¬(3:Int)<(ns.length:Int):=by simpa using c
   walk_at"";refine⟨_,_,dc,_,_,rfl,hx,T.dW,T.gI,rfl,?_⟩;walk_at"";refine⟨ra,_,_,ns,rfl,bW.of pW,ri.rl,fun H1 s1=>?_⟩;walk_at"";refine ik (fun c2=>?_) fun c2=>?_
   ·have c2:ns.all (wi 0 19)=false:=by rw[aT]at c2;exact c2
    rw[if_neg (fun h=>by rw[c2]at h;exact absurd h.2 (by decide))]at k;walk_at"";exact k H1 s1
   ·have c2:ns.all (wi 0 19)=true:=by rw[aT,gy]at c2;exact c2
    rw[if_pos ⟨by omega,c2⟩]at k;have R1:=R.same s1;walk_at"";refine⟨g,m,cx,pl,a,ns,rfl,R1,ca.same s1,ri,ha,fun H2 s2=>?_⟩;have R2:=R1.same s2;have IJ:=s1.trans s2;walk_at"";refine ik (fun c3=>?_) fun c3=>?_
    ·have c3:fH m (gL a)=0:=of_decide_eq_true c3;obtain⟨h0,hi,p,r,hq⟩:=P2 c3;rw[hq]at k;have ef:XS m ns (p::r)=Br m p ns:=rfl;rw[ef]at k;have ei:gL a=(((gL a).toNat:Nat):Int):=by omega
     walk_at"";refine⟨_,_,dc,_,_,rfl,IJ _ _ hx,T.dW,T.cX,rfl,?_⟩;walk_at"";refine eO (bW.of (IJ _ _ rL)) (lX ha) ?_;walk_at"";refine⟨_,_,dc,_,_,rfl,IJ _ _ hx,T.dW,T.gI,rfl,?_⟩;walk_at"";refine⟨g,m,(gL a).toNat,p,r,ra,ns,by rw[<-ei];rfl,R2,ri.rN,hi,hq,bW.of (IJ _ _ pW),by omega,ri.tk (by omega),ri.ne _ hi p (by rw[hq];exact ah),fun H3 s3=>?_⟩;walk_at"";refine ik (fun c4=>?_) fun c4=>?_
     ·rw[aT]at c4;rw[if_pos ⟨c3,c4⟩]at k;walk_at"";exact k H3 (IJ.trans s3)
     ·rw[aT,gy]at c4;have nc:¬(fH m (gL a)=0/\Br m p ns=false):=fun h=>by rw[c4]at h;exact absurd h.2 (by decide)
      rw[if_neg nc]at k;walk_at"";exact k H3 (IJ.trans s3)
    ·have c3:¬fH m (gL a)=0:=by simpa using c3
     rw[if_neg (fun h=>c3 h.1)]at k;refine EF ?_;walk_at"";exact k H2 IJ
def agt(a r:List Int):Int:=lA (a.getD 0 0) (a.getD 1 0) (a.getD 2 0) (a.getD 3 0) (a.getD 4 0) (a.getD 5 0) (a.getD 6 0) (a.getD 7 0) r
def refOf(m:DM)(p:Nat)(a r:List Int):Int:=match p with
 |0=>agt a r
 |1=>kg m (gL a) r
 |2=>fH m (gL a)
 |3=>jN m (gL a)
 |4=>cS m.n (gL a)
 |5=>0
 |6=>cS m.n (gL a)
 |7=>0
 |8=>cS m.n (gL a)
 |9=>cS m.n (gL a)
 |10=>cS m.n (gL a)
 |11=>cS m.n (gL a)
 |12=>Fb m (gL a)
 |13=>0
 |14=>j3 m r
 |15=>qu m (gL a)
 |16=>cS m.n (gL a)
 |_=>mV (gL a)
def J8(ad:Ad)(p:Nat):Sp:=fun vs H Q _=>E5 fun(g:Gh) (m:DM) (cx:Addr) (a r:List Int)=>A6 (vs=[.ref (g .dr),.ref cx]) (Rep ad g m H) (vm ad H cx p a r) (Yt m r) (a.length=Ma.hm.getD p 0) (∀H',a7 H H'->Q (.int (refOf m p a r)) H')
def Zh(ad:Ad):Sp:=fun vs H Q E=>∃p,p<18/\J8 ad p vs H Q E
theorem wR{ad:Ad}{p k:Nat}{f:DM->List Int->List Int->Int}(hk:k<=Ma.hm.getD p 0)(hf:∀m a r,refOf m p a r=f m a r)(vs:List V)(H:Hp)(Q:VK)(E):J8 ad p vs H Q E->y2 ad k f vs H Q E:=by
 rintro⟨g,m,cx,a,r,e,R,ca,ri,ln,kk⟩;refine⟨g,m,cx,p,a,r,e,R,ca,ri,by rw[ln];exact hk,fun H' s=>?_⟩;rw[<-hf];exact kk H' s
theorem ahZ{a:List Int}(h:a.length=8):a=[a.getD 0 0,a.getD 1 0,a.getD 2 0,a.getD 3 0,a.getD 4 0,a.getD 5 0,a.getD 6 0,a.getD 7 0]:=by
 match a,h with
 |[_,_,_,_,_,_,_,_],_=>rfl
theorem ahC{ad:Ad}(vs:List V)(H:Hp)(Q:VK)(E):J8 ad 0 vs H Q E->Ms ad vs H Q E:=by
 rintro⟨g,m,cx,a,r,e,R,ca,ri,ln,kk⟩;exact⟨_,cx,_,_,_,_,_,_,_,_,r,e,by rw[<-ahZ ln];exact ca,ri.rl,kk⟩
theorem ZA(T:Txt K mg ad){p:Nat}(h:p<18):∃f fd k,JL [V.ref ad.lW,.ref ad.ny,.ref ad.nA,.ref ad.oY,.ref ad.cY,.ref ad.kK,.ref ad.cY,.ref ad.kK,.ref ad.cY,.ref ad.cY,.ref ad.cY,.ref ad.cY,.ref ad.nv,.ref ad.kK,.ref ad.k9,.ref ad.nB,.ref ad.cY,.ref ad.lV] (p:Int)=some (.ref f)/\
  cF P w K mg base iC k f fd ["draft","call"] (J8 ad p)/\k<=6/\eV K (.ref f)=true/\Binds K fd ["draft","call"] []:=by
 match p,h with
 |0,_=>exact⟨_,_,4,rfl,(CO T).imp ahC,by decide,T.pI.F.kp,T.pI.b⟩
 |1,_=>exact⟨_,_,6,rfl,(Ez T).imp (wR (by decide) fun _ _ _=>rfl),by decide,T.qD.F.kp,T.qD.b⟩
 |2,_=>exact⟨_,_,5,rfl,(vD T).imp (wR (by decide) fun _ _ _=>rfl),by decide,T.jt.F.kp,T.jt.b⟩
 |3,_=>exact⟨_,_,4,rfl,(w9 T).imp (wR (by decide) fun _ _ _=>rfl),by decide,T.j2.F.kp,T.j2.b⟩
 |4,_=>exact⟨_,_,3,rfl,(fF T).imp (wR (by decide) fun _ _ _=>rfl),by decide,T.bX.F.kp,T.bX.b⟩
 |5,_=>exact⟨_,_,1,rfl,(xa T).imp (wR (by decide) fun _ _ _=>rfl),by decide,T.l5.F.kp,T.l5.b⟩
 |6,_=>exact⟨_,_,3,rfl,(fF T).imp (wR (by decide) fun _ _ _=>rfl),by decide,T.bX.F.kp,T.bX.b⟩
 |7,_=>exact⟨_,_,1,rfl,(xa T).imp (wR (by decide) fun _ _ _=>rfl),by decide,T.l5.F.kp,T.l5.b⟩
 |8,_=>exact⟨_,_,3,rfl,(fF T).imp (wR (by decide) fun _ _ _=>rfl),by decide,T.bX.F.kp,T.bX.b⟩
 |9,_=>exact⟨_,_,3,rfl,(fF T).imp (wR (by decide) fun _ _ _=>rfl),by decide,T.bX.F.kp,T.bX.b⟩
 |10,_=>exact⟨_,_,3,rfl,(fF T).imp (wR (by decide) fun _ _ _=>rfl),by decide,T.bX.F.kp,T.bX.b⟩
 |11,_=>exact⟨_,_,3,rfl,(fF T).imp (wR (by decide) fun _ _ _=>rfl),by decide,T.bX.F.kp,T.bX.b⟩
 |12,_=>exact⟨_,_,3,rfl,(Ey T).imp (wR (by decide) fun _ _ _=>rfl),by decide,T.qC.F.kp,T.qC.b⟩
 |13,_=>exact⟨_,_,1,rfl,(xa T).imp (wR (by decide) fun _ _ _=>rfl),by decide,T.l5.F.kp,T.l5.b⟩
 |14,_=>exact⟨_,_,3,rfl,(Bd T).imp (wR (by decide) fun _ _ _=>rfl),by decide,T.ot.F.kp,T.ot.b⟩
 |15,_=>exact⟨_,_,3,rfl,(EC T).imp (wR (by decide) fun _ _ _=>rfl),by decide,T.qE.F.kp,T.qE.b⟩
 |16,_=>exact⟨_,_,3,rfl,(fF T).imp (wR (by decide) fun _ _ _=>rfl),by decide,T.bX.F.kp,T.bX.b⟩
 |17,_=>exact⟨_,_,3,rfl,(CL T).imp (wR (by decide) fun _ _ _=>rfl),by decide,T.pH.F.kp,T.pH.b⟩
 |p+18,h=>exact absurd h (by omega)
theorem zd(T:Txt K mg ad):cF P w K mg base iC 7 ad.Bv ad.BD ["draft","call"] (Zh ad):=by
 refine T.jK.F.ok y3 (by rintro _ _ _ _ ⟨p,_,g,m,cx,a,r,rfl,_⟩;rfl) (fun _ A _ s H vs Q E hr h=>?_)
 ·obtain⟨p,hp,h⟩:=h;obtain⟨g,m,cx,a,r,rfl,R,ca,ri,ln,k⟩:=id h;obtain⟨dc,na,ra,hx,rL,pW⟩:=ca.ex;refine⟨_,(aC (cf (i:=2) y3.nd rfl (be rfl) (eB Qc (wV rfl T.Qz) (aQ (pv 1) rfl) (fun _ _=>rfl)))
   (aJ (bj (MY (i:=2) rfl (be rfl) (af (pv 0) (af (pv 1) ay)))))),?_⟩
  walk_at"";refine⟨_,_,dc,_,_,rfl,hx,T.dW,T.tM,rfl,?_⟩;obtain⟨ff,fd,kk,Jt,G,hk8,kp,bb⟩:=ZA (P:=P) (w:=w) (base:=base) T hp;refine XM (T.PD _) Jt ?_;walk_at"";refine⟨ff,fd,kk,_,_,rfl,G,hr.mono hk8,kp,bb,?_⟩;walk_at"";exact h
abbrev aaR:=dQ->Hp->Addr->(Addr->Prop)->Prop
def Keeps(X F:Addr->Prop)(H:Hp)(F':Addr->Prop)(H':Hp):Prop:=∀b o,H b=some o->¬F b->H' b=some o/\(¬X b->¬F' b)
def V4(ad:Ad)(Vs:aaR):Sp:=fun vs H Q _=>E2 fun(l dx:Addr)=>A3 (vs=[.ref l]) (H l=some (.ins ad.jy dx [])) (∀H' F,Vs e9 H' l F->Keeps (fun _=>False) (fun b=>b=l) H F H'->Q .lC H')
def Rf(ad:Ad)(Vs:aaR):Sp:=fun vs H Q _=>E5 fun(l x dc na ra:Addr)=>E5 fun(F:Addr->Prop) (s:dQ) (pl:Nat) (a r:List Int)=>E2 fun(c:List (List Int)) (d:Yy)=>A8 (vs=[.ref l,.ref x]) (Vs s H l F) (Ma.jm s) (H x=some (.ins ad.nG dc (caF pl na ra))) (H na=some (.lst (a.map V.int))) (H ra=some (.lst (r.map V.int))) (¬F x/\¬F na/\¬F ra) (A5 (Ma.Form c pl a r) (Ma.CS pl a r=some d) (a.length<=16000) (r.length<=16000) (∀H' F' q,Vs (aU s d).1 H' l F'->Keeps (fun b=>b=ra) F H F' H'->(H q≠none->F q)->H' q=some (.lst ((aU s d).2.map V.int))->¬F' q->Q (.ref q) H'))
def Rg(K:aq):Sp:=fun vs H Q _=>E2 fun(a:Addr) (ns:List Int)=>A5 (vs=[.ref a]) (bW K H a (ns.map V.int)) (ns.length<=16000) (uJ ns=true) (∀(H':Hp) (p:Addr),H' p=some (.lst ((BY ns).map V.int))->Q (.ref p) H')
def after:dQ->List (List (List Int))->dQ
 |s,[]=>s
 |s,c::r=>after (bu s c).1 r
theorem Hx:∀(l:List (List (List Int))) (s:dQ) (c:List (List Int)),after s (l++[c])=(bu (after s l) c).1
 |[],_,_=>rfl
 |x::l,s,c=>Hx l _ c
theorem DD:∀(l:List (List (List Int))) (s:dQ) (c:List (List Int)),fE bu s (l++[c])=fE bu s l++[(bu (after s l) c).2]
 |[],_,_=>rfl
 |x::l,s,c=>by
  show(bu s x).2::fE bu (bu s x).1 (l++[c])=_;rw[DD l];rfl
theorem Kw:∀(a b:List (List (List Int))),fu (a++b)=fu a++fu b
 |[],_=>rfl
 |x::a,b=>by
  show gB x++fu (a++b)=(gB x++fu a)++fu b;rw[Kw a b,dF]
theorem Om:∀(l:List (List (List Int))) (s:dQ),Ma.jm s->(∀c∈l,j9 gc c)->Ma.jm (after s l)
 |[],_,h,_=>h
 |c::l,s,h,hc=>by
  obtain⟨p,a,r,f⟩:=Ma.Fj (hc c ah);obtain⟨d,_,e⟩:=Ma.Cj (s:=s) f;show Ma.jm (after (bu s c).1 l);rw[e];exact Om l _ (Ma.Q9 h d) fun x hx=>hc x (aA _ hx)
theorem Mg:∀(l:List (List (List Int))) (s:dQ),Ma.jm s->(∀c∈l,j9 gc c)->(hE (fE bu s l)).length<=20001*l.length
 |[],_,_,_=>ao _
 |c::l,s,h,hc=>by
  obtain⟨p,a,r,f⟩:=Ma.Fj (hc c ah);obtain⟨d,_,e⟩:=Ma.Cj (s:=s) f;show(hE ((bu s c).2::fE bu (bu s c).1 l)).length<=_;rw[e];have ih:=Mg l (aU s d).1 (Ma.Q9 h d) fun x hx=>hc x (aA _ hx)
  have al:=Ma.Au h d;have e2:hE ((aU s d).2::fE bu (aU s d).1 l)=(((aU s d).2.length:Nat):Int)::(aU s d).2++hE (fE bu (aU s d).1 l):=dE;rw[e2,ai,az,az];omega
theorem Tt{X F F':Addr->Prop}{H H':Hp}{a:Addr}{xs:List V}(k:Keeps X F H F' H')(ha:(∃o,H a=some o)->¬F a)(h:bW K H a xs):bW K H' a xs:=by
 rcases h with (h|⟨o,h⟩)|h
 ·exact .inl (.inl (k _ _ h (ha ⟨_,h⟩)).1)
 ·exact .inl (.inr ⟨o,(k _ _ h (ha ⟨_,h⟩)).1⟩)
 ·exact .inr h
theorem Rb{H:Hp}{a b:Addr}{o:HO}{xs:List V}(j1:a≠b)(h:bW K H a xs):bW K (upd H b o) a xs:=by
 rcases h with (h|⟨u,h⟩)|h
 ·exact .inl (.inl (aX j1 h))
 ·exact .inl (.inr ⟨u,aX j1 h⟩)
 ·exact .inr h
theorem ZG{c:List (List Int)}(h:j9 gc c):gB c≠ []:=by
 obtain⟨p,a,xs,rfl,_⟩:=h;intro e;cases e
theorem aar{σ:L2.St}{H:Hp}{c:TT}{tb:TS}{N C B:L2.St->Hp->Prop}{R:VK}(W:Nat->L2.St->Hp->Prop){m:Nat}(h0:W m σ H)(hs:∀m σ H,W m σ H->c σ H fun b H1=>if b=true then ∃N':L2.St->Hp->Prop,(∀σ' H',N' σ' H'->∃m',m'<m/\W m' σ' H')/\tb ⟨N',R,N,N'⟩ σ H1 else N σ H1):VQ c tb ⟨N,R,B,C⟩ σ H:=⟨W,⟨m,h0⟩,hs⟩
theorem Ib{Vs:aaR}(T:Txt K mg ad)(Ot:cF P w K mg base iC 20 ad.xC ad.xR ["line","call"] (Rf ad Vs))(Ou:cF P w K mg base iC 20 ad.xF ad.xU ["self"] (V4 ad Vs))
  (t7:∀ {s H l F},Vs s H l F->∀ {H':Hp},(∀b o,H b=some o->F b->H' b=some o)->Vs s H' l F)(FX:∀ {s H l F b},Vs s H l F->F b->H b≠none)
  :cF P w K mg base iC 30 ad.yF ad.ux ["calls"] (Rg K):=by
 refine T.Iw.F.ok qK (by rintro _ _ _ _ ⟨a,ns,rfl,_⟩;rfl) (fun _ A _ s H vs Q E hr h=>?_)
 ·obtain⟨a,ns,rfl,hS,hlen,adg,k⟩:=h;obtain⟨cs,K0,gR,hcs,aiR⟩:=Ma.Oj adg;rw[aiR]at k;have aK:(∃o,H a=some o)\/∀H':Hp,bW K H' a (ns.map V.int):=by
   rcases hS with (h|⟨o,h⟩)|h
   ·exact .inl ⟨_,h⟩
   ·exact .inl ⟨_,h⟩
   ·exact .inr fun H'=>.inr h
  refine⟨_,(aC (cf (i:=1) qK.nd rfl (be rfl) (lT T.tq.m (GI T) hr.mono rfl T.Ud T.tq.b .nil bp (af (pv 0) ay)))
   (aC (cf (i:=2) qK.nd rfl (be rfl) (MX T.wo.m Ou hr.mono rfl T.Z1 T.wo.b .nil bp))
   (aC (cf (i:=3) qK.nd rfl (be rfl) (fg ay))
   (aC (WD ck (kF (gf (pv 1) T.gK T.mQ.m (z6 T) hr.mono T.mQ.b .nil bp))
   (aC (cf (i:=4) qK.nd rfl (be rfl) (bF Ot hr.mono rfl T.rT.g T.rT.F.kp T.rT.b .nil bp (af (pv 2) (af (gf (pv 1) T.gK T.l8.m (yQ T) hr.mono T.l8.b .nil bp) ay))))
   (aC (eu (lr a9 cK cJ ju (pv 3) (af (bH bg (by rfl) T.jx aV (af (pv 4) ay)) ay)))
   (aJ (eu (lr a9 dH dG kZ (pv 3) (af (pv 4) ay)))))))
   (aJ (bj (pv 3))))))),?_⟩
  walk_at"";intro rd drd LQ aiS amJ;refine⟨rd,drd,a,rfl,ak,fun H1 h1 b1=>⟨rfl,?_⟩⟩;have s1:a7 H H1:=a7.made LQ aiS b1;have hS1:bW K H1 a (ns.map V.int):=s1.seq hS;walk_at"";intro ln dln hln afQ aiv;refine⟨ln,dln,rfl,ak,fun H2 F2 aeY k2=>⟨rfl,?_⟩⟩;have kp2:∀b o,H1 b=some o->H2 b=some o/\¬F2 b:=by
   intro b o e;have n1:b≠ln:=aR e hln;exact⟨(k2 b o (aX n1 (bq afQ e)) n1).1,(k2 b o (aX n1 (bq afQ e)) n1).2 fun h=>h⟩
  have s2:a7 H1 H2:=fun b o e=>(kp2 b o e).1
  obtain⟨d1,hr1⟩:=h1;have Nz:=kp2 _ _ hr1;have hS2:=s2.seq hS1;have aF2:(∃o,H1 a=some o)->¬F2 a:=fun⟨o,e⟩=>(kp2 a o e).2
  walk_at"";refine⟨by decide,fun gb hgb=>?_⟩;have aam:(∃o,H a=some o)->a≠gb:=fun⟨o,e⟩=>aR (s2 _ _ (s1 _ _ e)) hgb
  have ngF:¬F2 gb:=fun h=>FX aeY h hgb
  refine Jv ?_;refine aar (fun n σ H'=>∃(pre post:List (List (List Int))) (v4:Option V) (F:Addr->Prop),cs=pre++post/\post.length=n/\σ=[some (.ref a),some (.ref rd),some (.ref ln),some (.ref gb),v4]/\LB ad H' rd a (fu pre).length/\bW K H' a (ns.map V.int)/\
   Vs (after e9 pre) H' ln F/\H' gb=some (.lst ((hE (fE bu nZ pre)).map V.int))/\¬F rd/\¬F gb/\((∃o,H a=some o)->¬F a/\∃o',H' a=some o'))
   (m:=cs.length) ⟨[],cs,none,F2,rfl,rfl,rfl,⟨d1,bq hgb Nz.1⟩,(aP _ hgb).seq hS2,t7 aeY (fun b o e _=>bq hgb e),ak,Nz.2,ngF,fun⟨o,e⟩=>⟨(kp2 a o (s1 _ _ e)).2,o,bq hgb (s2 _ _ (s1 _ _ e))⟩⟩ ?_
  rintro n σ H' ⟨pre,post,v4,F,ecs,afv,rfl,⟨dr,hr'⟩,hS',sim,hg',nFr,nFg,nFa⟩;have hns:ns=fu pre++fu post:=by rw[K0,ecs,Kw]
  have aeQ:=Om pre e9 Ma.Mn fun c hc=>gR c (by rw[ecs];exact aH.mpr (.inl hc))
  walk_at"";refine⟨_,dr,_,rfl,hr',rfl,?_⟩;walk_at"";refine⟨rd,a,_,ns,rfl,⟨dr,hr'⟩,hS',?_⟩;walk_at"";cases post with
  |nil=>
   have e:decide ((fu pre).length<ns.length)=false:=decide_eq_false (by rw[hns,ai];show ¬_<_+0;omega);rw[e];refine EF ?_;walk_at"";rw[cV]at ecs;rw[<-ecs]at hg';exact k H' gb hg'
  |cons c post=>
   have hc:j9 gc c:=gR c (by rw[ecs];exact aH.mpr (.inr ah));have Uv:0<(gB c).length:=iF.mpr (ZG hc);have e:decide ((fu pre).length<ns.length)=true:=decide_eq_true (by
    rw[hns,ai];show _<_+(gB c++fu post).length;rw[ai];omega)
   rw[e];refine oH ⟨_,fun σ' H'' h=>h,?_⟩;obtain⟨pl,ar,rr,f⟩:=Ma.Fj hc;obtain⟨d,hd,dB⟩:=Ma.Cj (s:=after e9 pre) f;have xw:ns.drop (fu pre).length=gB c++fu post:=by rw[hns,JV];rfl
   walk_at"";refine⟨_,dr,_,rfl,hr',rfl,?_⟩;walk_at"";refine⟨rd,a,_,ns,fu post,c,pl,ar,rr,rfl,⟨dr,hr'⟩,hS',by omega,xw,f,fun H3 x dc na ra h3 b3 hx rL pW hx3 Qj aim=>?_⟩;obtain⟨d3,hr3⟩:=h3;have Zo:Vs (after e9 pre) H3 ln F:=t7 sim fun b o e hF=>b3 b o e (fun q=>nFr (q▸hF))
   have ngr:gb≠rd:=uj hg' hr' (by intro z;cases z);have hg3:=b3 _ _ hg' ngr;have hS3:=E9 hr' b3 hS';walk_at"";have fo:∀b,H' b=none->¬F b:=fun b e h=>FX sim h e
   have l3:pl<18:=f.p18;have hln:(gB c).length<=16000:=by
    have:=congrArg nL xw;rw[jI,ai]at this;omega
   have hpf:=Ma.IV f;have hal:ar.length<=16000/\rr.length<=16000:=by
    rw[hpf]at hln;split at hln
    ·rw[az,ai,az]at hln;omega
    ·rename_i hh;rw[az]at hln;rw[f.nil (by simpa using hh)];exact⟨by omega,bK _⟩
   refine⟨ln,x,dc,na,ra,F,after e9 pre,pl,ar,rr,c,d,rfl,Zo,aeQ,hx3,Qj,aim,⟨fo x hx,fo na rL,fo ra pW⟩,f,hd,hal.1,hal.2,fun H4 F4 q ahw k4 hqn NA nFq=>?_⟩;have nrr:rd≠ra:=aR hr' pW;have ahW:gb≠ra:=aR hg' pW;have hr4:H4 rd=_/\¬F4 rd:=⟨(k4 _ _ hr3 nFr).1,(k4 _ _ hr3 nFr).2 nrr⟩;have hg4:H4 gb=_/\¬F4 gb:=⟨(k4 _ _ hg3 nFg).1,(k4 _ _ hg3 nFg).2 ahW⟩;have aky:=Ma.Au aeQ d;have tQ:=Mg pre e9 Ma.Mn fun c hc=>gR c (by rw[ecs];exact aH.mpr (.inl hc))
   have hpn:pre.length<=300:=by
    have:=congrArg nL ecs;rw[ai]at this;omega
   have amA:(hE (fE bu nZ pre)).length<=6000300:=by
    have:(hE (fE bu e9 pre)).length<=20001*300:=bN tQ (Nat.mul_le_mul_left _ hpn);exact this
   have hS4:bW K H4 a (ns.map V.int):=by
    rcases aK with hl|hr
    ·exact Tt k4 (fun _=>(nFa hl).1) hS3
    ·exact hr H4
   have nqg:q≠gb:=fun e=>nFg (by rw[<-e];exact hqn (by rw[e,hg3];simp))
   walk_at"";refine⟨.inl ⟨rfl,_,bW.of hg4.1⟩,?_⟩;walk_at"";refine⟨_,_,rfl,.inl (bW.of NA),?_⟩;walk_at"";refine xx hg4.1 (zg (by rw[ae];omega)) ?_;walk_at"";refine⟨.inl ⟨rfl,_,bW.of ak⟩,?_⟩;walk_at"";refine Bp ak (aX nqg NA) (YO ?_) ?_
   ·rw[ai,ae,ae];simp only[az,kn];omega
   have afg:rd≠gb:=fun e=>ngr e.symm
   have acY:nZ=e9:=rfl;refine⟨post.length,by rw[<-afv,az];omega,pre++[c],post,_,F4,by rw[ecs,dF];rfl,rfl,rfl,⟨d3,?_⟩,?_,?_,?_,hr4.2,hg4.2,fun hl=>?_⟩
   ·have el:(fu (pre++[c])).length=(fu pre).length+(gB c).length:=by
     rw[Kw,ai];show _+(gB c++[]).length=_;rw[cV]
    rw[el];exact aX afg (aX afg hr4.1)
   ·rcases aK with hl|hr
    ·exact Rb (aam hl) (Rb (aam hl) hS4)
    ·exact hr _
   ·rw[Hx,dB];exact t7 ahw fun b o e hF=>aX (fun q=>hg4.2 (q▸hF)) (aX (fun q=>hg4.2 (q▸hF)) e)
   ·rw[DD,Ma.Th,acY,dB,aF,bo];have e5:((hE (fE bu e9 pre)).map V.int++[V.int ((((aU (after e9 pre) d).2.map V.int).length:Nat):Int)])++(aU (after e9 pre) d).2.map V.int=(hE (fE bu e9 pre)).map V.int++V.int (((aU (after e9 pre) d).2.length:Nat):Int)::(aU (after e9 pre) d).2.map V.int:=by
     rw[ae,dF];rfl
    rw[<-e5];exact ak
   ·obtain⟨nF,o',e'⟩:=nFa hl;obtain⟨o,e⟩:=hl;have nar:a≠rd:=aR e LQ;have r4:=k4 a o' (b3 _ _ e' nar) nF;exact⟨r4.2 (aR e' pW),o',aX (aam ⟨o,e⟩) (aX (aam ⟨o,e⟩) r4.1)⟩
def foot(g:Gh)(m:DM)(l:Addr):Addr->Prop:=fun b=>b=l\/(∃r,iG m r/\g r=b)\/g.z b≠none
def dmN:DM:=LU 0 [] 0 0 [] [[],[],[],[]]
def HA(s:dQ)(m:DM):Prop:=(s.table={}/\m=dmN)\/(Ma.fw s.table/\nR s.table m)
structure yT(ad:Ad)(s:dQ)(H:Hp)(l:Addr)(F:Addr->Prop)(g:Gh)(m:DM):Prop where
 line:∃dx,H l=some (.ins ad.jy dx [("draft",.ref (g .dr))])
 rep:Rep ad g m H
 pk:vW m
 pc:m.picks=s.moves
 out:Out g m l
 zl:g.z l=none
 ft:F=foot g m l
 tab:HA s m
def QJ(ad:Ad):aaR:=fun s H l F=>E2 fun g m=>yT ad s H l F g m
theorem yT.keep{ad:Ad}{s:dQ}{H:Hp}{l:Addr}{F:Addr->Prop}{g:Gh}{m:DM}(h:yT ad s H l F g m){H':Hp}(k:∀b o,H b=some o->F b->H' b=some o):yT ad s H' l F g m:=by
 obtain⟨⟨dx,e⟩,r,p,c,o,z,f,t⟩:=h;exact⟨⟨dx,k _ _ e (by rw[f];exact .inl rfl)⟩,r.keep (fun r' hr o' e'=>k _ _ e' (by rw[f];exact .inr (.inl ⟨r',hr,rfl⟩))) (fun b o e1 e2=>k _ _ e2 (by rw[f];exact .inr (.inr (by rw[e1];simp)))),p,c,o,z,f,t⟩
theorem yT.same{ad:Ad}{s:dQ}{H:Hp}{l:Addr}{F:Addr->Prop}{g:Gh}{m:DM}(h:yT ad s H l F g m){H':Hp}(sm:a7 H H'):yT ad s H' l F g m:=h.keep fun b o e _=>sm b o e
theorem t7{ad:Ad}{s:dQ}{H:Hp}{l:Addr}{F:Addr->Prop}(h:QJ ad s H l F){H':Hp}(k:∀b o,H b=some o->F b->H' b=some o):QJ ad s H' l F:=let ⟨g,m,x⟩:=h;⟨g,m,x.keep k⟩
theorem yT.tr{ad:Ad}{s:dQ}{H:Hp}{l:Addr}{F:Addr->Prop}{g:Gh}{m:DM}{b:Addr}(h:yT ad s H l F g m)(hb:F b):H b≠none:=by
 obtain⟨⟨dx,e⟩,r,p,c,o,z,f,t⟩:=h;rw[f]at hb;rcases hb with rfl|⟨r',hr,rfl⟩|hz
 ·rw[e];simp
 ·obtain⟨o',e',_⟩:=r.at_ r' hr;rw[e'];simp
 ·intro q;exact hz (r.zn q)
theorem FX{ad:Ad}{s:dQ}{H:Hp}{l:Addr}{F:Addr->Prop}{b:Addr}(h:QJ ad s H l F)(hb:F b):H b≠none:=let ⟨_,_,x⟩:=h;x.tr hb
theorem tZ{s:dQ}{m:DM}(h:HA s m):m.n=s.table.setup.seats:=by
 rcases h with ⟨a,b⟩|⟨_,a⟩
 ·rw[a,b];rfl
 ·exact a.n
theorem mU{s:dQ}{m:DM}(h:HA s m)(hn:0<m.n):Ma.fw s.table/\nR s.table m:=by
 rcases h with ⟨a,b⟩|h
 ·rw[b]at hn;exact absurd hn (by decide)
 ·exact h
theorem VP{s:dQ}{m:DM}(h:HA s m):m.n<=8:=by
 rcases h with ⟨e1,e2⟩|⟨tok,ab⟩
 ·rw[e2];decide
 ·rw[ab.n];exact tok.su.seats.2
theorem Wv{s:dQ}{m:DM}(h:HA s m)(pk:vW m){r:List Int}(hr:r.length<=100000):Yt m r:=by
 refine⟨pk.rN,fun hn=>?_,fun j hj p hp=>?_,hr⟩
 ·obtain⟨tok,ab⟩:=mU h hn;rw[ab.takes];exact tok.su.takes.1
 ·obtain⟨tok,ab⟩:=mU h (by omega);rw[ab.queues]at hp;exact(tok.str.pk j p hp).1
theorem jc{s:dQ}{n:Nat}(hn:n=s.table.setup.seats){i:Int}{k:Unit->dQ×List Int}:bI s [(-1,!bf i 0 7),iH s i] k=if cS n i=0 then k ()else(s,[cS n i]):=by
 unfold bI cS iH;cases h:bf i 0 7 with
 |false=>simp[h]
 |true=>
  rw[hn];by_cases c:(s.table.setup.seats:Int)<=i
  ·simp[h,c]
  ·simp[h,c]
theorem fj{p:Nat}{a r:List Int}{c:List (List Int)}(f:Ma.Form c p a r)(h:Ma.hm.getD p 0=1):∃i,a=[i]:=by
 have:=f.len;rw[h]at this;match a,this with
 |[i],_=>exact⟨i,rfl⟩
theorem t6{t:LV}{m:DM}(a:nR t m)(cs:List Nat):(cs.map fun c=>m.sorts.getD (c-1) 0).map nV=(cM t cs).map V.int:=by
 unfold cM Vbdcaq.ints;rw[cO,cO,cO];apply bU;intro c _;show V.int _=V.int _;rw[a.sorts];rfl
theorem Ln{t:LV}(h:Ma.fw t){i:Nat}(hi:i<t.setup.seats):∀c∈cA t i,1<=c/\c<=t.cards.length:=by
 intro c hc;have a1:=Ma.aaF (ps:=t.pools) (i:=i) c (by rw[h.str.pl];exact hi);have a2:=h.str.one c;have a3:=cU.mpr hc;have a4:(cA t i).count c=(t.pools.getD i []).count c:=rfl;split at a2
 ·assumption
 ·omega
theorem Od{t:LV}(h:Ma.fw t){i:Nat}(hi:i<t.setup.seats){p:bA}(hp:p∈bc t i):∀c∈p.cards,1<=c/\c<=t.cards.length:=by
 intro c hc;have a0:=Ma.xY (c:=c) hp;have a1:=Ma.Fq (qs:=t.queues) (i:=i) c (by rw[h.str.ql];exact hi);have a2:=h.str.one c;have a3:=cU.mpr hc;have a4:Ma.pP c (bc t i)=Ma.pP c (t.queues.getD i []):=rfl;split at a2
 ·assumption
 ·omega
structure CI(ad:Ad)(p:Nat)(H:Hp)(l x dc na ra:Addr)(F:Addr->Prop)(s:dQ)(a r:List Int)(c:List (List Int))(d:Yy)(g:Gh)(m:DM):Prop where
 sx:yT ad s H l F g m
 ok:Ma.jm s
 hx:H x=some (.ins ad.nG dc (caF p na ra))
 rL:H na=some (.lst (a.map V.int))
 pW:H ra=some (.lst (r.map V.int))
 nF:¬F x/\¬F na/\¬F ra
 f:Ma.Form c p a r
 hd:Ma.CS p a r=some d
 al:a.length<=16000
 rl:r.length<=16000
theorem CI.at_{ad:Ad}{p:Nat}{H:Hp}{l x dc na ra:Addr}{F:Addr->Prop}{s:dQ}{a r:List Int}{c:List (List Int)}{d:Yy}{g:Gh}{m:DM}(h:CI ad p H l x dc na ra F s a r c d g m):vm ad H x p a r:=⟨dc,na,ra,h.hx,h.rL,h.pW⟩
def jM(ad:Ad)(p:Nat):Sp:=fun vs H Q _=>E5 fun(l x dc na ra:Addr)=>E5 fun(F:Addr->Prop) (s:dQ) (a r:List Int) (c:List (List Int))=>E3 fun(d:Yy) (g:Gh) (m:DM)=>A4 (vs=[.ref l,.ref x]) (CI ad p H l x dc na ra F s a r c d g m) (refOf m p a r=0) (∀H' F' q ans,QJ ad (aU s d).1 H' l F'->Keeps (fun b=>b=ra) F H F' H'->(aU s d).2=0::ans->H' q=some (.lst (ans.map V.int))->Q (.ref q) H')
theorem CI.tells{ad:Ad}{p:Nat}{H H':Hp}{l x dc na ra q:Addr}{F:Addr->Prop}{s:dQ}{a r:List Int}{c:List (List Int)}{d:Yy}{g:Gh}{m:DM}{Q:VK}(h:CI ad p H l x dc na ra F s a r c d g m)
  (k:∀H' F' q ans,QJ ad (aU s d).1 H' l F'->Keeps (fun b=>b=ra) F H F' H'->(aU s d).2=0::ans->H' q=some (.lst (ans.map V.int))->Q (.ref q) H')
  {ans:List Int}(hs:aU s d=(s,0::ans))(sm:a7 H H')(hq:H' q=some (.lst (ans.map V.int))):Q (.ref q) H':=
 k H' F q ans (by rw[hs];exact⟨g,m,h.sx.same sm⟩) (fun b o e hb=>⟨sm b o e,fun _=>hb⟩) (by rw[hs]) hq
structure LC(ad:Ad)(H:Hp)(l x:Addr)(g:Gh)(m:DM)(a:List Int):Prop where
 line:∃dl,H l=some (.ins ad.jy dl [("draft",.ref (g .dr))])
 rep:Rep ad g m H
 call:∃p r,vm ad H x p a r
 one:1<=a.length
 nn:0<=gL a
theorem LC.same{ad:Ad}{H H':Hp}{l x:Addr}{g:Gh}{m:DM}{a:List Int}(h:LC ad H l x g m a)(s:a7 H H'):LC ad H' l x g m a:=
 ⟨let ⟨d,e⟩:=h.line;⟨d,s _ _ e⟩,h.rep.same s,let ⟨p,r,c⟩:=h.call;⟨p,r,c.same s⟩,h.one,h.nn⟩
theorem CI.lc{ad:Ad}{p:Nat}{H:Hp}{l x dc na ra:Addr}{F:Addr->Prop}{s:dQ}{a r:List Int}{c:List (List Int)}{d:Yy}{g:Gh}{m:DM}(h:CI ad p H l x dc na ra F s a r c d g m)(h1:1<=a.length)(h0:0<=gL a):LC ad H l x g m a:=⟨h.sx.line,h.sx.rep,⟨p,r,h.at_⟩,h1,h0⟩
def V1(ad:Ad):Sp:=fun vs H Q _=>E5 fun(l x:Addr) (g:Gh) (m:DM) (a:List Int)=>A4 (vs=[.ref l,.ref x]) (LC ad H l x g m a) ((gL a).toNat<m.n) (Q (.ref (g (.dn (gL a).toNat))) H)
theorem mh(T:Txt K mg ad):cF P w K mg base iC 1 ad.JA ad.JD ["line","call"] (V1 ad):=by
 refine T.d9.F.ok Pt (by rintro _ _ _ _ ⟨l,x,g,m,a,rfl,_⟩;rfl) (fun _ A _ s H vs Q E hr h=>?_)
 ·obtain⟨l,x,g,m,a,rfl,lc,hi,k⟩:=h;obtain⟨dl,hl⟩:=lc.line;obtain⟨p,r,ca⟩:=lc.call;obtain⟨dc,na,ra,hx,rL,pW⟩:=ca.ex;obtain⟨dd,su,qz,_⟩:=lc.rep.gk;have Az:H (g .seats)=_:=lc.rep.lst (r:=.seats) trivial fun _ e=>e
  have ei:gL a=(((gL a).toNat:Nat):Int):=by have:=lc.nn;omega
  refine⟨_,(aJ (bj (eB cj (aQ (aQ (pv 0) rfl) rfl) (eB cj (aQ (pv 1) rfl) aS (fun _ _=>rfl)) (fun _ _=>rfl)))),?_⟩;walk_at"";refine⟨_,_,dl,_,_,rfl,hl,T.e8,T.bP,rfl,?_⟩;refine⟨_,_,dd,_,_,rfl,qz,T.a6,T.c7,rfl,?_⟩;walk_at"";refine⟨_,_,dc,_,_,rfl,hx,T.dW,T.cX,rfl,?_⟩;walk_at"";refine eO (bW.of rL) (lX lc.one) ?_;rw[ei];refine eO (bW.of Az) (uC hi) ?_;exact k
def acb(ad:Ad):Sp:=fun vs H Q _=>E5 fun(l x:Addr) (g:Gh) (m:DM) (a:List Int)=>∃t:Table,A6 (vs=[.ref l,.ref x]) (LC ad H l x g m a) ((gL a).toNat<m.n) (Ma.fw t) (nR t m) (∀H' q,a7 H H'->H q=none->H' q=some (.lst ((cM t (cA t (gL a).toNat)).map V.int))->Q (.ref q) H')
theorem RJ(T:Txt K mg ad):cF P w K mg base iC 5 ad.Hf ad.Qw ["line","call"] (acb ad):=by
 refine T.Cd.F.ok Zs (by rintro _ _ _ _ ⟨l,x,g,m,a,t,rfl,_⟩;rfl) (fun _ A _ s H vs Q E hr h=>?_)
 ·obtain⟨l,x,g,m,a,t,rfl,lc,hi,tok,ab,k⟩:=h;obtain⟨dl,hl⟩:=lc.line;obtain⟨dd,su,qz,_⟩:=lc.rep.gk;obtain⟨ds,hs⟩:=lc.rep.dn hi;have Xs:=lc.rep.pool hi;rw[ab.pools]at Xs;have vV:(gL a).toNat<t.setup.seats:=by rw[<-ab.n];exact hi
  refine⟨_,(aJ (bj (gg (aQ (pv 0) rfl) T.a6 T.bO.m (eN T) hr.mono T.bO.b .nil bp (af (aQ (bF (mh T) hr.mono rfl T.d9.g T.d9.F.kp T.d9.b .nil bp (af (pv 0) (af (pv 1) ay))) rfl) ay)))),?_⟩;walk_at"";refine⟨_,_,dl,_,_,rfl,hl,T.e8,T.bP,rfl,?_⟩;refine⟨_,dd,_,rfl,qz,rfl,?_⟩;walk_at"";refine⟨l,x,g,m,a,rfl,lc,hi,?_⟩;refine⟨_,_,ds,_,_,rfl,hs,T.cT,T.my,rfl,?_⟩;walk_at"";refine⟨g,m,_,cA t (gL a).toNat,rfl,lc.rep,bW.of Xs,?_,?_,fun H2 q2 s2 uH Xq=>?_⟩
  ·have:=Ma.uZ tok.str (i:=(gL a).toNat) vV;have:=Ma.gY tok;omega
  ·intro c hc;have:=Ln tok vV c hc;rw[ab.sorts];exact this
  ·rw[t6 ab]at Xq;exact k H2 q2 s2 uH Xq
theorem qI{p:Nat}{H:Hp}{l x dc na ra:Addr}{F:Addr->Prop}{s:dQ}{a r:List Int}{c:List (List Int)}{d:Yy}{g:Gh}{m:DM}(h:CI ad p H l x dc na ra F s a r c d g m)(e:cS m.n (gL a)=0)(ha:1<=a.length):LC ad H l x g m a/\(gL a).toNat<m.n/\Ma.fw s.table/\nR s.table m:=by
 obtain⟨h0,hi,_⟩:=oy e;exact⟨h.lc ha h0,hi,mU h.sx.tab (by omega)⟩
theorem Tj(T:Txt K mg ad):cF P w K mg base iC 5 ad.Hf ad.Qw ["line","call"] (jM ad 4):=by
 refine(RJ T).imp fun vs H Q E h=>?_
 obtain⟨l,x,dc,na,ra,F,st,a,r,c,d,g,m,rfl,ci,rf,k⟩:=h;obtain⟨i,rfl⟩:=fj ci.f rfl;cases (show some (Oy i)=some d from ci.hd);obtain⟨lc,hi,tok,ab⟩:=qI ci rf (ao _);have dB:aU st (.pool i)=(st,0::cM st.table (cA st.table i.toNat)):=(jc (k:=fun _=>(st,0::cM st.table (cA st.table i.toNat))) (tZ ci.sx.tab)).trans (if_pos rf);exact⟨l,x,g,m,[i],st.table,rfl,lc,hi,tok,ab,fun H' q sm _ hq=>ci.tells k dB sm hq⟩
theorem yz{t:Table}{m:DM}(a:nR t m)(h:Ma.fw t):kP t=decide (m.round=m.rounds):=by
 unfold kP;rw[a.round,a.rounds];have:=h.rd;exact decide_eq_decide.mpr (by omega)
theorem Wd{n:Nat}{i:Int}(h:cS n i≠0):cS n i<0:=by
 unfold cS at h⊢;split at h
 ·rename_i e;split at h
  ·rename_i e2;rw[if_pos e,if_pos e2];decide
  ·exact absurd rfl h
 ·rename_i e;rw[if_neg e];decide
theorem Mz{s:dQ}{m:DM}(tab:HA s m)(i:Int):
  (jN m i<0->aU s (.see i)=(s,[jN m i]))/\(jN m i<0\/jN m i=0)/\
  (jN m i=0->∃p r,0<=i/\i.toNat<m.n/\m.queues i.toNat=p::r/\aU s (.see i)=(s,[0,(p.origin:Int),(p.visits:Int)]++cM s.table p.cards)):=by
 have hn:=tZ tab;have Nw:aU s (.see i)=bI s [(-1,!bf i 0 7),iH s i,(-4,(bc s.table i.toNat).isEmpty)] (fun _=>(s,match bc s.table i.toNat with
   |p::_=>[0,(p.origin:Int),(p.visits:Int)]++cM s.table p.cards
   |[]=>[0])):=rfl
 have hg:aU s (.see i)=if cS m.n i=0 then(if bc s.table i.toNat=[]then(s,[-4])else(s,match bc s.table i.toNat with
   |p::_=>[0,(p.origin:Int),(p.visits:Int)]++cM s.table p.cards
   |[]=>[0]))else(s,[cS m.n i]):=by
  rw[Nw];unfold bI cS iH;cases h:bf i 0 7 with
  |false=>simp[h]
  |true=>
   rw[hn];by_cases c:(s.table.setup.seats:Int)<=i
   ·simp[h,c]
   ·cases hq:bc s.table i.toNat with
    |nil=>simp[h,c]
    |cons p r=>simp[h,c]
 rw[hg];by_cases c0:cS m.n i=0
 ·rw[if_pos c0];obtain⟨h0,hi,_⟩:=oy c0;obtain⟨tok,ab⟩:=mU tab (by omega);unfold jN;rw[<-ab.queues];cases hq:m.queues i.toNat with
  |nil=>
   rw[if_pos ⟨c0,rfl⟩,if_pos rfl];exact⟨fun _=>rfl,.inl (by decide),fun h=>by cases h⟩
  |cons p r=>
   rw[if_neg (fun h=>by cases h.2),if_neg (by intro h;cases h),c0];exact⟨fun h=>absurd h (by decide),.inr rfl,fun _=>⟨p,r,h0,hi,rfl,rfl⟩⟩
 ·rw[if_neg c0];have hl:jN m i=cS m.n i:=by unfold jN;rw[if_neg (fun h=>c0 h.1)]
  rw[hl];exact⟨fun _=>rfl,.inl (Wd c0),fun h=>absurd h c0⟩
theorem acI(T:Txt K mg ad):cF P w K mg base iC 6 ad.Sk ad.abQ ["line","call"] (jM ad 3):=by
 refine T.VE.F.ok Wf (by rintro _ _ _ _ ⟨l,x,dc,na,ra,F,s,a,r,c,d,g,m,rfl,_⟩;rfl) (fun _ A _ s H vs Q E hr h=>?_)
 ·obtain⟨l,x,dc,na,ra,F,st,a,ns,c,d,g,m,rfl,ci,rf,k⟩:=h;obtain⟨i,rfl⟩:=fj ci.f rfl;cases (show some (OQ i)=some d from ci.hd);have sx:=ci.sx;obtain⟨dl,hl⟩:=sx.line;obtain⟨dd,su,qz,_⟩:=sx.rep.gk;obtain⟨G5,hs3,hs2⟩:=Mz sx.tab i;obtain⟨p,r,h0,hi,hq,dB⟩:=hs2 rf;obtain⟨tok,ab⟩:=mU sx.tab (by omega);obtain⟨ds,hs⟩:=sx.rep.dn hi;have k7:=sx.rep.row hi;rw[hq]at k7;have Jr:m.pk p.origin=some p:=sx.pk.rN _ hi p (by rw[hq];exact ah);obtain⟨dp,ca,hp,hc,_⟩:=sx.rep.pack Jr;have hpq:p∈bc st.table i.toNat:=by rw[<-ab.queues,hq];exact ah
  have vV:i.toNat<st.table.setup.seats:=by rw[<-ab.n];exact hi
  have psz:=Ma.u5 tok vV hpq;have s20:Ma.size st.table<=20:=tok.su.Ku.2;refine⟨_,(aC (cf (i:=2) Wf.nd rfl (be rfl) (eB cj (aQ (bF (mh T) hr.mono rfl T.d9.g T.d9.F.kp T.d9.b .nil bp (af (pv 0) (af (pv 1) ay))) rfl) aS (fun _ _=>rfl)))
   (aJ (bj (gF WS (fg (af (aQ (pv 2) rfl) (af (aQ (pv 2) rfl) ay))) (gg (aQ (pv 0) rfl) T.a6 T.bO.m (eN T) hr.mono T.bO.b .nil bp (af (aQ (pv 2) rfl) ay)))))),?_⟩
  walk_at"";refine⟨l,x,g,m,[i],rfl,ci.lc (ao _) h0,hi,?_⟩;refine⟨_,_,ds,_,_,rfl,hs,T.cT,T.fh,rfl,?_⟩;walk_at"";refine eO (bW.of k7) Oh ?_;walk_at"";refine⟨_,_,dp,_,_,rfl,hp,T.fk,T.tL,rfl,?_⟩;walk_at"";refine⟨_,_,dp,_,_,rfl,hp,T.fk,T.oW,rfl,?_⟩;walk_at"";refine⟨by show 2<=sizeLine;decide,fun q0 OO=>?_⟩;have s0:=aP (.lst [nV p.origin,nV p.visits]) OO;have hz:upd H q0 (.lst [nV p.origin,nV p.visits]) q0=some (.lst [nV p.origin,nV p.visits]):=ak;generalize upd H q0 (.lst [nV p.origin,nV p.visits])=H1 at s0 hz⊢;walk_at"";refine⟨_,_,dl,_,_,rfl,s0 _ _ hl,T.e8,T.bP,rfl,?_⟩;refine⟨_,dd,_,rfl,s0 _ _ qz,rfl,?_⟩;walk_at"";refine⟨_,_,dp,_,_,rfl,s0 _ _ hp,T.fk,T.eA,rfl,?_⟩;walk_at"";refine⟨g,m,_,p.cards,rfl,sx.rep.same s0,bW.of (s0 _ _ hc),by omega,?_,fun H2 q2 s2 uH Xq=>?_⟩
  ·intro c hc;have:=Od tok vV hpq c hc;rw[ab.sorts];exact this
  ·rw[t6 ab]at Xq;walk_at"";refine⟨q0,q2,_,_,rfl,rfl,s2 _ _ hz,Xq,YO ?_,fun q hq=>?_⟩
   ·rw[ae,Ma.ou];show 2+_<=_;omega
   ·exact ci.tells k dB ((s0.trans s2).trans (aP _ hq)) ak
theorem T4(T:Txt K mg ad):cF P w K mg base iC 6 ad.Bt ad.N0 ["line","call"] (jM ad 7):=by
 refine T.FF.F.ok Cn (by rintro _ _ _ _ ⟨l,x,dc,na,ra,F,s,a,r,c,d,g,m,rfl,_⟩;rfl) (fun _ A _ s H vs Q E hr h=>?_)
 ·obtain⟨l,x,dc,na,ra,F,st,a,ns,c,d,g,m,rfl,ci,rf,k⟩:=h;have ha:a=[]:=fD ci.f.len;subst ha;cases (show some Vbdcaq.Call.stands=some d from ci.hd);have sx:=ci.sx;obtain⟨dl,hl⟩:=sx.line;obtain⟨dd,su,qz,_⟩:=sx.rep.gk;have Az:H (g .seats)=_:=sx.rep.lst (r:=.seats) trivial fun _ e=>e
  have Ie:H (g .sorts)=_:=sx.rep.lst (r:=.sorts) trivial fun _ e=>e
  obtain⟨as,K1,pa⟩:=sx.rep.picks;have tQ:as.length=m.picks.length:=Paired.len pa;have dB:aU st .stands=(st,[0,(m.n:Int),(m.round:Int),if decide (m.round=m.rounds)=true then 1 else 0,(m.picks.length:Int),(m.sorts.length:Int)]):=by
   show(st,[0,(st.table.setup.seats:Int),(st.table.round:Int),if kP st.table=true then 1 else 0,(st.moves.length:Int),(st.table.cards.length:Int)])=_;rw[sx.pc];rcases sx.tab with ⟨e1,e2⟩|⟨tok,ab⟩
   ·rw[e1,e2];rfl
   ·rw[yz ab tok,ab.n,ab.round,ab.sorts]
  refine⟨_,(aC (cf (i:=2) Cn.nd rfl (be rfl) (aQ (pv 0) rfl))
   (aC (cf (i:=3) Cn.nd rfl (be rfl) (Gz (kF (gf (pv 2) T.a6 T.ia.m (oF T) hr.mono T.ia.b .nil bp)) aS aS))
   (aJ (bj (fg (af (bH bg (by rfl) T.jx aV (af (aQ (pv 2) rfl) ay)) (af (aQ (pv 2) rfl) (af (pv 3) (af (bH bg (by rfl) T.jx aV (af (aQ (pv 2) rfl) ay)) (af (bH bg (by rfl) T.jx aV (af (aQ (pv 2) rfl) ay)) ay)))))))))),?_⟩
  walk_at"";refine⟨_,_,dl,_,_,rfl,hl,T.e8,T.bP,rfl,?_⟩;walk_at"";refine⟨_,dd,_,rfl,qz,rfl,?_⟩;walk_at"";refine⟨g,m,rfl,sx.rep,?_⟩;walk_at"";have fin:∀(b:Int),(if decide (m.round=m.rounds)=true then(1:Int)else 0)=b->∀q,H q=none->Q (.ref q) (upd H q (.lst ([(m.n:Int),(m.round:Int),b,(m.picks.length:Int),(m.sorts.length:Int)].map V.int))):=fun b hb q hq=>by
   rw[hb]at dB;exact ci.tells k dB (aP _ hq) ak
  refine ik (fun c=>?_) fun c=>?_
  ·rw[if_pos c]at fin;walk_at"";refine⟨_,_,dd,_,_,rfl,qz,T.a6,T.c7,rfl,?_⟩;walk_at"";refine⟨_,_,rfl,.inl (bW.of Az),?_⟩;rw[ae,ba];walk_at"";refine⟨_,_,dd,_,_,rfl,qz,T.a6,T.eU,rfl,?_⟩;walk_at"";refine⟨_,_,dd,_,_,rfl,qz,T.a6,T.je,rfl,?_⟩;walk_at"";refine⟨_,_,rfl,.inl (bW.of K1),?_⟩;rw[ae,tQ];walk_at"";refine⟨_,_,dd,_,_,rfl,qz,T.a6,T.gH,rfl,?_⟩;walk_at"";refine⟨_,_,rfl,.inl (bW.of Ie),?_⟩;rw[ae];walk_at"";exact⟨by show 5<=sizeLine;decide,fin 1 rfl⟩
  ·rw[if_neg c]at fin;walk_at"";refine⟨_,_,dd,_,_,rfl,qz,T.a6,T.c7,rfl,?_⟩;walk_at"";refine⟨_,_,rfl,.inl (bW.of Az),?_⟩;rw[ae,ba];walk_at"";refine⟨_,_,dd,_,_,rfl,qz,T.a6,T.eU,rfl,?_⟩;walk_at"";refine⟨_,_,dd,_,_,rfl,qz,T.a6,T.je,rfl,?_⟩;walk_at"";refine⟨_,_,rfl,.inl (bW.of K1),?_⟩;rw[ae,tQ];walk_at"";refine⟨_,_,dd,_,_,rfl,qz,T.a6,T.gH,rfl,?_⟩;walk_at"";refine⟨_,_,rfl,.inl (bW.of Ie),?_⟩;rw[ae];walk_at"";exact⟨by show 5<=sizeLine;decide,fin 0 rfl⟩
theorem IS{n i:Nat}{f:Nat->V}{x:V}(hx:((aG n).map f)[i]? =some x):i<n/\x=f i:=by
 obtain⟨j,hj,rfl⟩:=get_map hx;obtain⟨h2,h3⟩:=aw.mp hj;rw[ba]at h2;rw[mJ]at h3;exact⟨h2,by rw[h3]⟩
theorem WT(T:Txt K mg ad):cF P w K mg base iC 6 ad.Fk ad.Su ["line","call"] (jM ad 5):=by
 refine T.JY.F.ok FZ (by rintro _ _ _ _ ⟨l,x,dc,na,ra,F,s,a,r,c,d,g,m,rfl,_⟩;rfl) (fun _ A _ s H vs Q E hr h=>?_)
 ·obtain⟨l,x,dc,na,ra,F,st,a,ns,c,d,g,m,rfl,ci,rf,k⟩:=h;have ha:a=[]:=fD ci.f.len;subst ha;cases (show some Vbdcaq.Call.waits=some d from ci.hd);have sx:=ci.sx;obtain⟨dl,hl⟩:=sx.line;obtain⟨dd,su,qz,_⟩:=sx.rep.gk;have Az:H (g .seats)=_:=sx.rep.lst (r:=.seats) trivial fun _ e=>e
  have dB:aU st .waits=(st,0::(aG m.n).map fun i=>((m.queues i).length:Int)):=by
   show(st,0::st.table.queues.map fun q=>(q.length:Int))=_;rcases sx.tab with ⟨e1,e2⟩|⟨tok,ab⟩
   ·rw[e1,e2];rfl
   ·congr 2
    apply List.ext_getElem?
    intro j;rw[cI,cI];by_cases hj:j<m.n
    ·have C0:j<st.table.queues.length:=by rw[tok.str.ql,<-ab.n];exact hj
     rw[l4 hj,aB C0];show some _=some ((m.queues j).length:Int);rw[ab.queues];unfold bc;rw[aW,aB C0];rfl
    ·have C0:¬j<st.table.queues.length:=by rw[tok.str.ql,<-ab.n];exact hj
     rw[fL (l:=st.table.queues) (by omega),fL (l:=aG m.n) (by rw[ba];omega)];rfl
  have hn8:=VP sx.tab;refine⟨_,(aJ (bj (si rfl FZ.nd (hJ (aQ (aQ (pv 0) rfl) rfl)) (gZ (N:=["line","call","seat"]) (sc:=aL Kq) (own:=[("seat",2)]) (by decide+kernel)) (fun _ _ _ _ _=>(cv (i:=2) FZ.nd rfl (be rfl) (jh rfl))) (fun _ _ _ _ _=>jO) (fun _ _ _ _ _=>(bH (r:=ZD K) C8 (by rfl) T.jx aV (af (m9 (K':=K) rfl (pv 2) rfl) ay)))))),?_⟩;walk_at"";refine⟨_,_,dl,_,_,rfl,hl,T.e8,T.bP,rfl,?_⟩;refine⟨_,_,dd,_,_,rfl,qz,T.a6,T.c7,rfl,?_⟩;walk_at"";refine⟨_,rfl,⟨_,bW.of Az⟩,fun D hD=>?_⟩;refine k5 (xs:=(aG m.n).map fun i=>V.ref (g (.dn i))) (fun i H'=>a7 H H'/\H' D=some (.lst (((aG i).map fun i=>((m.queues i).length:Int)).map V.int))) ⟨aP _ hD,ak⟩ (fun i H' _ h=>h.1.seq (bW.of Az)) ?_ ?_
  ·rintro i x H' hx ⟨s1,mB⟩;obtain⟨hi,rfl⟩:=IS hx;obtain⟨ds,hs⟩:=sx.rep.dn hi;have k7:=sx.rep.row hi;walk_at"";refine⟨rfl,?_⟩;walk_at"";refine oH ?_;walk_at"";refine⟨_,_,ds,_,_,rfl,s1 _ _ hs,T.cT,T.fh,rfl,?_⟩;walk_at"";refine⟨_,_,rfl,.inl (bW.of (s1 _ _ k7)),?_⟩;rw[ae];walk_at"";refine⟨_,mB,zg ?_,a7.put hD s1,?_⟩
   ·rw[ae,ae,ba];omega
   ·rw[dj,aF,aF];exact ak
  ·rintro H' ⟨s1,mB⟩;rw[ae,ba]at mB;exact ci.tells k dB s1 mB
theorem WV(T:Txt K mg ad):cF P w K mg base iC 6 ad.Fm ad.Sw ["line","call"] (jM ad 6):=by
 refine T.J0.F.ok F7 (by rintro _ _ _ _ ⟨l,x,dc,na,ra,F,s,a,r,c,d,g,m,rfl,_⟩;rfl) (fun _ A _ s H vs Q E hr h=>?_)
 ·obtain⟨l,x,dc,na,ra,F,st,a,ns,c,d,g,m,rfl,ci,rf,k⟩:=h;obtain⟨i,rfl⟩:=fj ci.f rfl;cases (show some (LX i)=some d from ci.hd);have sx:=ci.sx;obtain⟨lc,hi,tok,ab⟩:=qI ci rf (ao _);have dB:aU st (.sizes i)=(st,0::(bc st.table i.toNat).map fun p=>(p.cards.length:Int)):=(jc (i:=i) (k:=fun _=>(st,0::(bc st.table i.toNat).map fun(p:bA)=>(p.cards.length:Int))) (tZ sx.tab)).trans (if_pos rf);have hi:i.toNat<m.n:=hi;have vV:i.toNat<st.table.setup.seats:=by rw[<-ab.n];exact hi
  obtain⟨ds,hs⟩:=sx.rep.dn hi;have k7:=sx.rep.row hi;rw[<-ab.queues]at dB;have Jq:(m.queues i.toNat).length<=2000:=by
   rw[ab.queues];have:=Ma.ue tok.str vV;have:=Ma.gY tok;omega
  generalize hQ:m.queues i.toNat=qs at*;refine⟨_,(aJ (bj (si rfl F7.nd (hJ (aQ (bF (mh T) hr.mono rfl T.d9.g T.d9.F.kp T.d9.b .nil bp (af (pv 0) (af (pv 1) ay))) rfl)) (gZ (N:=["line","call","pack"]) (sc:=aL Kr) (own:=[("pack",2)]) (by decide+kernel)) (fun _ _ _ _ _=>(cv (i:=2) F7.nd rfl (be rfl) (jh rfl))) (fun _ _ _ _ _=>jO) (fun _ _ _ _ _=>(bH (r:=ZD K) C8 (by rfl) T.jx aV (af (m9 (K':=K) rfl (pv 2) rfl) ay)))))),?_⟩;walk_at"";refine⟨l,x,g,m,[i],rfl,lc,hi,?_⟩;refine⟨_,_,ds,_,_,rfl,hs,T.cT,T.fh,rfl,?_⟩;walk_at"";refine⟨_,rfl,⟨_,bW.of k7⟩,fun D hD=>?_⟩;refine k5 (xs:=qs.map fun p=>V.ref (g (.pack p.origin))) (fun i H'=>a7 H H'/\H' D=some (.lst (((qs.take i).map fun p=>(p.cards.length:Int)).map V.int))) ⟨aP _ hD,ak⟩ (fun i H' _ h=>h.1.seq (bW.of k7)) ?_ ?_
  ·rintro j x H' hx ⟨s1,mB⟩;obtain⟨p,hp,rfl⟩:=get_map hx;have Jr:m.pk p.origin=some p:=sx.pk.rN _ hi p (by rw[hQ];exact bC hp);obtain⟨dp,ca,hpp,hc,_⟩:=sx.rep.pack Jr;walk_at"";refine⟨rfl,?_⟩;walk_at"";refine oH ?_;walk_at"";refine⟨_,_,dp,_,_,rfl,s1 _ _ hpp,T.fk,T.eA,rfl,?_⟩;walk_at"";refine⟨_,_,rfl,.inl (bW.of (s1 _ _ hc)),?_⟩;rw[ae];walk_at"";refine⟨_,mB,zg ?_,a7.put hD s1,?_⟩
   ·rw[ae,ae,bt];omega
   ·rw[take_snoc hp,aF,aF];exact ak
  ·rintro H' ⟨s1,mB⟩;rw[ae,bJ]at mB;exact ci.tells k dB s1 mB
theorem ui:∀ {n:Nat} {cs:List Nat},cs.Nodup->(∀c∈cs,1<=c/\c<=n)->cs.length<=n
 |0,[],_,_=>ao _
 |0,c::_,_,h=>by have:=h c ah;omega
 |n+1,cs,nd,h=>by
  have ih:=ui (n:=n) (cs:=cs.erase (n+1)) (nd.erase _) fun c hc=>by
   have h1:=(List.Nodup.mem_erase_iff nd).mp hc;have:=h c h1.2;have:=h1.1;omega
  rw[List.length_erase]at ih;split at ih<;>omega
theorem Ck{t:Table}{m:DM}(a:nR t m)(cs:List Nat):(cs.map fun c=>m.sorts.getD (c-1) 0)=cs.map (dw t):=by
 apply bU
 intro c _;rw[a.sorts];rfl
theorem An(bx:Ma.NN):(zm bx).map nV=(lu bx).map V.int:=by
 unfold zm lu;rw[Y7,Y7];rfl
theorem wy{t:Table}(h:Ma.fw t)(l:List Nat):(nN t l).length<=64:=bN (Ma.yp t l) h.su.kinds.2
theorem XR{σ:L2.St}{H:Hp}{d:Addr}{o:Obj}{bx:List (Key×V)}{g:L2.TG}{tb:TS}{D:Ends}(Pv:Nat->L2.St->Hp->Prop)(h0:Pv 0 σ H)(hl:∀i σ H,i<=bx.length->Pv i σ H->H d=some (.nu o (.dK bx)))
  (hs:∀i k v σ H,bx[i]? =some (k,v)->Pv i σ H->g v σ H fun σ2 H2=>tb {D with nx:=Pv (i+1),ct:=Pv (i+1),bk:=D.nx} σ2 H2)(hd:∀σ H,Pv bx.length σ H->D.nx σ H):
  ∃W:Nat->Nat->L2.St->Hp->Prop,(∃m,W 0 m σ H)/\∀i m σ H,W i m σ H->
   ((Itd d o bx).stop i H/\D.nx σ H)\/((Itd d o bx).go i H/\∃N:L2.St->Hp->Prop,(∀σ' H',N σ' H'->∃m',m'<m/\W (i+1) m' σ' H')/\∀x H',(Itd d o bx).LP i H x H'->g x σ H' fun σ2 H2=>tb {D with nx:=N,ct:=N,bk:=D.nx} σ2 H2):=by
 refine⟨fun i m σ H=>m=bx.length-i/\i<=bx.length/\Pv i σ H,⟨bx.length,by simp,bK _,h0⟩,?_⟩;rintro i m σ H ⟨rfl,hi,p⟩;have q:=hl i σ H hi p;by_cases lM:i<bx.length
 ·refine .inr ⟨⟨q,lM⟩,Pv (i+1),fun σ' H' p'=>⟨bx.length-(i+1),by omega,rfl,lM,p'⟩,fun x H' y=>?_⟩;obtain⟨rfl,k,hk⟩:=y;exact hs i k x σ _ hk p
 ·have e:i=bx.length:=by omega
  subst e;exact .inl ⟨⟨q,ao _⟩,hd σ H p⟩
theorem aas{σ:L2.St}{H:Hp}{td:TE}{S:It->Hp->Prop}(k:td σ H fun x H1=>E3 fun d o bx=>A3 (x=.ref d) (H1 d=some (.nu o (.dK bx))) (S (Itd d o bx) H1)):abm td σ H S:=k
theorem MZ{α β:Type}{F:α->β->Prop}{a:List α}{b:List β}(h:Paired F a b):∀ {i:Nat} {y:β},b[i]? =some y->∃x,a[i]? =some x/\F x y:=by
 induction h with
 |nil=>intro i y e;simp at e
 |cons r _ ih=>
  intro i y e;cases i with
  |zero=>exact⟨_,rfl,by rw[<-ax e];exact r⟩
  |succ i=>exact ih e
theorem join_snoc(l:NL)(x:Nat×List Nat):eC (l++[x])=eC l++x.2:=by unfold eC;rw[gC];simp
theorem KW(l:NL)(i:Nat):(eC (l.take i)).length<=(eC l).length:=by
 conv=>rhs;rw[<-yL i l]
 unfold eC;rw[gC,ai];omega
def V5:Sp:=fun vs H Q _=>E3 fun(d:Addr) (bx:List (Key×V)) (l:NL)=>A5 (vs=[.ref d]) (H d=some (.dK bx)) (gm H l bx) ((eC l).length<=100000) (∀H' q,a7 H H'->H q=none->H' q=some (.lst ((eC l).map nV))->Q (.ref q) H')
theorem CN(T:Txt K mg ad):cF P w K mg base iC 1 ad.NT ad.N4 ["looks"] V5:=by
 refine T.lJ.F.ok Cp (by rintro _ _ _ _ ⟨d,bx,l,rfl,_⟩;rfl) (fun _ A _ s H vs Q E hr h=>?_)
 ·obtain⟨d,bx,l,rfl,hd,la,hl,k⟩:=h;refine⟨_,(aC (cf (i:=1) Cp.nd rfl (be rfl) (fg ay))
   (aC (Ry (jP ck rfl (TR (pv 0)) (cv (i:=2) Cp.nd rfl (be rfl))
   (aJ (eu (lr a9 dH dG kZ (pv 1) (af (pv 2) ay))))))
   (aJ (bj (pv 1))))),?_⟩
  walk_at"";refine⟨by decide,fun q hq=>?_⟩;have hdq:d≠q:=aR hd hq;refine Jv ?_;refine XJ (bq hq hd) trivial fun od=>?_
  have hd2:upd (upd H q (.lst [])) d (.nu od (.dK bx)) d=some (.nu od (.dK bx)):=ak;have uH:upd (upd H q (.lst [])) d (.nu od (.dK bx)) q=some (.lst ([]:List V)):=aX (bT hdq) ak;have s2:∀b o,H b=some o->b≠d->upd (upd H q (.lst [])) d (.nu od (.dK bx)) b=some o:=fun b o e hb=>aX hb (bq hq e)
  generalize upd (upd H q (.lst [])) d (.nu od (.dK bx))=H2 at hd2 uH s2⊢;refine abI ?_;refine aas ?_;walk_at"";refine⟨d,od,_,rfl,hd2,?_⟩;refine XR (fun i σ H'=>∃v2:Option V,σ=[some (.ref d),some (.ref q),v2]/\(∀b o,H b=some o->b≠d->H' b=some o)/\H' d=some (.nu od (.dK bx))/\H' q=some (.lst ((eC (l.take i)).map nV)))
   ⟨_,rfl,s2,hd2,uH⟩ (fun i σ H' _ ⟨_,_,_,h,_⟩=>h) ?_ ?_
  ·rintro i kk vv σ H' hk ⟨v2,rfl,s3,YV,vT⟩;obtain⟨x,hx,e,a,ea,ha⟩:=MZ la hk;have ea:vv=.ref a:=ea;subst ea;have nad:a≠d:=uj ha hd (by intro z;cases z);walk_at"";refine⟨.inl ⟨rfl,_,bW.of vT⟩,?_⟩;walk_at"";have lM:=KW l (i+1);rw[take_snoc hx,join_snoc,ai]at lM;refine Bp vT (s3 _ _ ha nad) (YO ?_) ?_
   ·rw[ae,ae];omega
   ·refine⟨_,rfl,fun b o e hb=>aX (aR e hq) (s3 _ _ e hb),aX hdq YV,?_⟩;rw[take_snoc hx,join_snoc,aF];exact ak
  ·rintro σ H3 ⟨v2,rfl,s3,YV,vT⟩;refine⟨YV,?_⟩;walk_at"";have el:bx.length=l.length:=(Paired.len la).symm;rw[el,bJ]at vT;refine k _ q (fun b o e=>?_) hq (aX (bT hdq) vT);by_cases hb:b=d
   ·rw[hb]at e⊢;rw[hd]at e;cases e;exact ak
   ·exact aX hb (s3 _ _ e hb)
def Dd(m:DM)(i:Nat):List Nat:=match m.queues i with
 |[]=>[]
 |p::_=>p.cards
def V7(ad:Ad):Sp:=fun vs H Q _=>E3 fun(g:Gh) (m:DM) (i:Nat)=>A5 (vs=[.ref (g (.dn i))]) (Rep ad g m H) (Fv m) (i<m.n) (∀H' q,a7 H H'->H' q=some (.lst ((Dd m i).map nV))->Q (.ref q) H')
theorem xb(T:Txt K mg ad):cF P w K mg base iC 1 ad.pX ad.pY ["self"] (V7 ad):=by
 refine T.lz.F.ok wD (by rintro _ _ _ _ ⟨g,m,i,rfl,_⟩;rfl) (fun _ A _ s H vs Q E hr h=>?_)
 ·obtain⟨g,m,i,rfl,R,rN,hi,k⟩:=h;obtain⟨ds,hs⟩:=R.dn hi;have k7:=R.row hi;unfold Dd at k;refine⟨_,(aJ (bj (Gz (eP zc (bH bg (by rfl) T.jx aV (af (aQ (pv 0) rfl) ay)) aS (fP _)) (aQ (eB cj (aQ (pv 0) rfl) aS (fun _ _=>rfl)) rfl) (fg ay)))),?_⟩;walk_at"";refine⟨_,_,ds,_,_,rfl,hs,T.cT,T.fh,rfl,?_⟩;walk_at"";refine⟨_,_,rfl,.inl (bW.of k7),?_⟩;rw[ae];walk_at"";cases hq:m.queues i with
  |nil=>
   rw[hq]at k;refine ik (fun c=>absurd (of_decide_eq_true c) (by decide)) fun c=>?_
   walk_at"";refine⟨by decide,fun q lU=>?_⟩;exact k _ q (aP _ lU) ak
  |cons p r=>
   rw[hq]at k7 k;have Jr:m.pk p.origin=some p:=rN i hi p (by rw[hq];exact ah);obtain⟨dp,ca,hp,hc,_⟩:=R.pack Jr;refine ik (fun c=>?_) fun c=>absurd (decide_eq_true (show(0:Int)<(((p::r).length:Nat):Int)by simp)) c
   walk_at"";refine⟨_,_,ds,_,_,rfl,hs,T.cT,T.fh,rfl,?_⟩;walk_at"";refine eO (bW.of k7) Oh ?_;refine⟨_,_,dp,_,_,rfl,hp,T.fk,T.eA,rfl,?_⟩;exact k H ca (a7.refl _) hc
def Zg(ad:Ad):Sp:=fun vs H Q _=>E3 fun(g:Gh) (m:DM) (i:Nat)=>A5 (vs=[.ref (g (.dn i))]) (Rep ad g m H) (i<m.n) ((eC (m.first i)).length<=100000) (∀H' q,a7 H H'->H q=none->H' q=some (.lst ((eC (m.first i)).map nV))->Q (.ref q) H')
theorem qT(T:Txt K mg ad):cF P w K mg base iC 2 ad.sE ad.sN ["self"] (Zg ad):=by
 refine T.i5.F.ok zP (by rintro _ _ _ _ ⟨g,m,i,rfl,_⟩;rfl) (fun _ A _ s H vs Q E hr h=>?_)
 ·obtain⟨g,m,i,rfl,R,hi,hl,k⟩:=h;obtain⟨ds,hs⟩:=R.dn hi;obtain⟨bx,hf,la⟩:=R.first hi;refine⟨_,(aJ (bj (bF (CN T) hr.mono rfl T.lJ.g T.lJ.F.kp T.lJ.b .nil bp (af (aQ (pv 0) rfl) ay)))),?_⟩;walk_at"";refine⟨_,_,ds,_,_,rfl,hs,T.cT,T.mj,rfl,?_⟩;walk_at"";exact⟨_,bx,m.first i,rfl,hf,la.same R.zs,hl,k⟩
def j6(cs:List Nat):List Int:=dI (fun i=>(cs.map fun n:Nat=>(n:Int)).getD i 0) (cs.map fun n:Nat=>(n:Int)).length
theorem My{cs:List Nat}{x:Int}:x∈j6 cs↔∃c∈cs,(c:Int)=x:=by
 unfold j6;rw[(C3 _ _).2.1];have:(aG (cs.map fun n:Nat=>(n:Int)).length).map (fun i=>(cs.map fun n:Nat=>(n:Int)).getD i 0)=cs.map fun n:Nat=>(n:Int):=by
  apply lI
  ·simp
  ·intro i h1 h2;rw[jJ,mJ,Ma.getD_in h2]
 rw[this,bh]
theorem Zq(cs:List Nat):(j6 cs).Nodup:=q5 _ _
theorem W6{ns:List Int}(h:∀x∈ns,0<=x):ns.map V.int=(ns.map cz).map nV:=by
 rw[cO];apply bU;intro z hz;exact congrArg V.int (by have:=h z hz;omega)
theorem VM{ns:List Int}(h:∀x∈ns,0<=x)(nd:ns.Nodup):(ns.map cz).Nodup:=by
 unfold wg;rw[ip];refine gE (fun{a b} ha hb j1 e=>j1 ?_) nd;have:=h a ha;have:=h b hb;omega
theorem Je{a b c:List Nat}{ns:List Int}(p:ns.Perm (((j6 a).filter fun k=>!(j6 b).contains k).filter fun k=>!(j6 c).contains k)):ns.map V.int=(ns.map cz).map nV/\(ns.map cz).Nodup/\∀x,x∈ns.map cz↔x∈a/\x∉b/\x∉c:=by
 have mem:∀z:Int,z∈ns↔∃x:Nat,(x:Int)=z/\x∈a/\x∉b/\x∉c:=by
  intro z;rw[p.mem_iff,dm,dm,My];have cn:∀(l:List Nat) (x:Nat),(!(j6 l).contains (x:Int))=true↔x∉l:=by
   intro l x;rw[aT,aY,decide_eq_false_iff_not,My];constructor
   ·intro h hx;exact h ⟨x,hx,rfl⟩
   ·rintro h ⟨y,hy,e⟩;have:y=x:=by omega
    exact h (this▸hy)
  constructor
  ·rintro⟨⟨⟨x,hx,rfl⟩,h1⟩,h2⟩;exact⟨x,rfl,hx,(cn b x).mp h1,(cn c x).mp h2⟩
  ·rintro⟨x,rfl,h1,h2,h3⟩;exact⟨⟨⟨x,h1,rfl⟩,(cn b x).mpr h2⟩,(cn c x).mpr h3⟩
 have nn:∀x∈ns,0<=x:=fun z hz=>by obtain⟨x,rfl,_⟩:=(mem z).mp hz;omega
 have nd:ns.Nodup:=p.nodup_iff.mpr (((Zq a).filter _).filter _);refine⟨W6 nn,VM nn nd,fun x=>?_⟩;rw[bh];constructor
 ·rintro⟨z,hz,rfl⟩;obtain⟨y,rfl,h⟩:=(mem z).mp hz;exact h
 ·intro h;exact⟨(x:Int),(mem _).mpr ⟨x,rfl,h⟩,rfl⟩
theorem CQ(cs:List Nat):cs.map nV=(cs.map fun n:Nat=>(n:Int)).map V.int:=by rw[cO];rfl
structure Oo(m:DM)(i:Nat):Prop where
 f:(eC (m.first i)).length<=1000
 l:(eC (m.last i)).length<=1000
 p:(m.pools i).length<=1000
 b:(Dd m i).length<=1000
def Rc(ad:Ad)(C:DM->Nat->Nat->Prop):Sp:=fun vs H Q _=>E3 fun(g:Gh) (m:DM) (i:Nat)=>A6 (vs=[.ref (g (.dn i))]) (Rep ad g m H) (Fv m) (i<m.n) (Oo m i) (∀H' q (cs:List Nat),a7 H H'->cs.Nodup->(∀c,c∈cs↔C m i c)->H' q=some (.lst (cs.map nV))->Q (.ref q) H')
def abH(m:DM)(i c:Nat):Prop:=c∈eC (m.first i)/\c∉eC (m.last i)/\c∉m.pools i
def abT(m:DM)(i c:Nat):Prop:=c∈eC (m.last i)/\c∉Dd m i/\c∉m.pools i
theorem z3(T:Txt K mg ad):cF P w K mg base iC 3 ad.sF ad.sO ["self"] (Rc ad abH):=by
 refine T.mO.F.ok zQ (by rintro _ _ _ _ ⟨g,m,i,rfl,_⟩;rfl) (fun _ A _ s H vs Q E hr h=>?_)
 ·obtain⟨g,m,i,rfl,R,rN,hi,sb,k⟩:=h;obtain⟨ds,hs⟩:=R.dn hi;obtain⟨bx,hf,la⟩:=R.last hi;have Xs:=R.pool hi;have b1:=sb.f;have b2:=sb.l;have b3:=sb.p;refine⟨_,(aJ (bj (bH (Hm rfl) (by rfl) T.Lw qB (af (gF Fg (gF Fg (kY (oJ rfl) (by rfl) T.QE gu (af (gf (pv 0) T.cT T.i5.m (qT T) hr.mono T.i5.b .nil bp) ay)) (kY (oJ rfl) (by rfl) T.QE gu (af (bF (CN T) hr.mono rfl T.lJ.g T.lJ.F.kp T.lJ.b .nil bp (af (aQ (pv 0) rfl) ay)) ay))) (kY (oJ rfl) (by rfl) T.QE gu (af (aQ (pv 0) rfl) ay))) ay)))),?_⟩;walk_at"";refine⟨_,ds,_,rfl,hs,rfl,?_⟩;walk_at"";refine⟨g,m,i,rfl,R,hi,by omega,fun H1 q1 s1 n1 e1=>?_⟩;walk_at"";rw[CQ]at e1;refine⟨q1,_,rfl,bW.of e1,by rw[ae];omega,fun x1 YR=>?_⟩;have t1:a7 H (upd H1 x1 (mC P w x1 (j6 (eC (m.first i))))):=s1.trans (aP _ YR);have f1:upd H1 x1 (mC P w x1 (j6 (eC (m.first i)))) x1=some (mC P w x1 (j6 (eC (m.first i)))):=ak;walk_at"";refine⟨_,_,ds,_,_,rfl,t1 _ _ hs,T.cT,T.i8,rfl,?_⟩;walk_at"";refine⟨_,bx,m.last i,rfl,t1 _ _ hf,la.same (R.zs.trans t1),by omega,fun H2 q2 s2 n2 e2=>?_⟩;walk_at"";rw[CQ]at e2;refine⟨q2,_,rfl,bW.of e2,by rw[ae];omega,fun x2 hx2=>?_⟩;have t2:a7 H (upd H2 x2 (mC P w x2 (j6 (eC (m.last i))))):=(t1.trans s2).trans (aP _ hx2);have f2:upd H2 x2 (mC P w x2 (j6 (eC (m.last i)))) x2=some (mC P w x2 (j6 (eC (m.last i)))):=ak;have f12:upd H2 x2 (mC P w x2 (j6 (eC (m.last i)))) x1=some (mC P w x1 (j6 (eC (m.first i)))):=bq hx2 (s2 _ _ f1);walk_at"";refine⟨x1,x2,_,_,rfl,rfl,f12,f2,fun x3 hx3=>?_⟩;have t3:a7 H (upd (upd H2 x2 (mC P w x2 (j6 (eC (m.last i))))) x3 (mC P w x3 ((j6 (eC (m.first i))).filter fun k=>!(j6 (eC (m.last i))).contains k))):=t2.trans (aP _ hx3);walk_at"";refine⟨_,_,ds,_,_,rfl,t3 _ _ hs,T.cT,T.my,rfl,?_⟩;walk_at"";have Xr:=t3 _ _ Xs;rw[CQ]at Xr;refine⟨_,_,rfl,bW.of Xr,by rw[ae];omega,fun x4 hx4=>?_⟩;have t4:=t3.trans (aP (mC P w x4 (j6 (m.pools i))) hx4);walk_at"";refine⟨x3,x4,_,_,rfl,rfl,bq hx4 ak,ak,fun x5 hx5=>?_⟩;have t5:=t4.trans (aP (mC P w x5 (((j6 (eC (m.first i))).filter fun k=>!(j6 (eC (m.last i))).contains k).filter fun k=>!(j6 (m.pools i)).contains k)) hx5);walk_at"";refine⟨x5,_,rfl,ak,fun ns p pp _ hp=>?_⟩;obtain⟨c1,c2,c3⟩:=Je pp;rw[c1];exact k _ p _ (t5.trans (aP _ hp)) c2 c3 ak
theorem z4(T:Txt K mg ad):cF P w K mg base iC 3 ad.sG ad.sP ["self"] (Rc ad abT):=by
 refine T.mP.F.ok zR (by rintro _ _ _ _ ⟨g,m,i,rfl,_⟩;rfl) (fun _ A _ s H vs Q E hr h=>?_)
 ·obtain⟨g,m,i,rfl,R,rN,hi,sb,k⟩:=h;obtain⟨ds,hs⟩:=R.dn hi;obtain⟨bx,hf,la⟩:=R.last hi;have Xs:=R.pool hi;have b1:=sb.b;have b2:=sb.l;have b3:=sb.p;refine⟨_,(aJ (bj (bH (Hm rfl) (by rfl) T.Lw qB (af (gF Fg (gF Fg (kY (oJ rfl) (by rfl) T.QE gu (af (bF (CN T) hr.mono rfl T.lJ.g T.lJ.F.kp T.lJ.b .nil bp (af (aQ (pv 0) rfl) ay)) ay)) (kY (oJ rfl) (by rfl) T.QE gu (af (gf (pv 0) T.cT T.lz.m (xb T) hr.mono T.lz.b .nil bp) ay))) (kY (oJ rfl) (by rfl) T.QE gu (af (aQ (pv 0) rfl) ay))) ay)))),?_⟩;walk_at"";refine⟨_,_,ds,_,_,rfl,hs,T.cT,T.i8,rfl,?_⟩;walk_at"";refine⟨_,bx,m.last i,rfl,hf,la.same R.zs,by omega,fun H1 q1 s1 n1 e1=>?_⟩;walk_at"";rw[CQ]at e1;refine⟨q1,_,rfl,bW.of e1,by rw[ae];omega,fun x1 YR=>?_⟩;have t1:a7 H (upd H1 x1 (mC P w x1 (j6 (eC (m.last i))))):=s1.trans (aP _ YR);have f1:upd H1 x1 (mC P w x1 (j6 (eC (m.last i)))) x1=some (mC P w x1 (j6 (eC (m.last i)))):=ak;walk_at"";refine⟨_,ds,_,rfl,t1 _ _ hs,rfl,?_⟩;walk_at"";refine⟨g,m,i,rfl,R.same t1,rN,hi,fun H2 q2 s2 e2=>?_⟩;walk_at"";rw[CQ]at e2;refine⟨q2,_,rfl,bW.of e2,by rw[ae];omega,fun x2 hx2=>?_⟩;have t2:a7 H (upd H2 x2 (mC P w x2 (j6 (Dd m i)))):=(t1.trans s2).trans (aP _ hx2);have f2:upd H2 x2 (mC P w x2 (j6 (Dd m i))) x2=some (mC P w x2 (j6 (Dd m i))):=ak;have f12:upd H2 x2 (mC P w x2 (j6 (Dd m i))) x1=some (mC P w x1 (j6 (eC (m.last i)))):=bq hx2 (s2 _ _ f1);walk_at"";refine⟨x1,x2,_,_,rfl,rfl,f12,f2,fun x3 hx3=>?_⟩;have t3:a7 H (upd (upd H2 x2 (mC P w x2 (j6 (Dd m i)))) x3 (mC P w x3 ((j6 (eC (m.last i))).filter fun k=>!(j6 (Dd m i)).contains k))):=t2.trans (aP _ hx3);walk_at"";refine⟨_,_,ds,_,_,rfl,t3 _ _ hs,T.cT,T.my,rfl,?_⟩;walk_at"";have Xr:=t3 _ _ Xs;rw[CQ]at Xr;refine⟨_,_,rfl,bW.of Xr,by rw[ae];omega,fun x4 hx4=>?_⟩;have t4:=t3.trans (aP (mC P w x4 (j6 (m.pools i))) hx4);walk_at"";refine⟨x3,x4,_,_,rfl,rfl,bq hx4 ak,ak,fun x5 hx5=>?_⟩;have t5:=t4.trans (aP (mC P w x5 (((j6 (eC (m.last i))).filter fun k=>!(j6 (Dd m i)).contains k).filter fun k=>!(j6 (m.pools i)).contains k)) hx5);walk_at"";refine⟨x5,_,rfl,ak,fun ns p pp _ hp=>?_⟩;obtain⟨c1,c2,c3⟩:=Je pp;rw[c1];exact k _ p _ (t5.trans (aP _ hp)) c2 c3 ak
theorem wB{t:Table}(h:Ma.fw t){i c:Nat}(hc:Ma.j7 t i c):1<=c/\c<=t.cards.length:=by
 obtain⟨y,hy,hcy⟩:=hc;exact((h.str.lk _ y hy).2 c hcy).2
theorem Yn{t:Table}{m:DM}(a:nR t m)(i:Nat):Dd m i=uB t i:=by unfold Dd uB;rw[a.queues];try rfl
theorem Cm{t:Table}{m:DM}(a:nR t m)(h:Ma.fw t)(L:Ma.qv t){i:Nat}(hi:i<m.n):Oo m i:=by
 have hc:=Ma.gY h;have vV:i<t.setup.seats:=by rw[<-a.n];exact hi
 refine⟨?_,?_,?_,?_⟩
 ·rw[a.first];have:=ui (Rl h.str L i) fun c hc=>wB h ((Kd L i c).mp hc)
  omega
 ·rw[a.last];have:=ui (Z5 h.str L i) fun c hc=>wB h (Jm h.str L i c hc)
  omega
 ·rw[a.pools];have:=Ma.uZ h.str vV;omega
 ·rw[Yn a];unfold uB;cases e:bc t i with
  |nil=>exact bK _
  |cons p r=>
   have:=Ma.u5 h vV (p:=p) (by rw[e];exact ah);have s20:Ma.size t<=20:=h.su.Ku.2;show p.cards.length<=1000;omega
theorem ZM(T:Txt K mg ad):cF P w K mg base iC 6 ad.La ad.X5 ["line","call"] (jM ad 8):=by
 refine T.OX.F.ok Zr (by rintro _ _ _ _ ⟨l,x,dc,na,ra,F,s,a,r,c,d,g,m,rfl,_⟩;rfl) (fun _ A _ s H vs Q E hr h=>?_)
 ·obtain⟨l,x,dc,na,ra,F,st,a,ns,c,d,g,m,rfl,ci,rf,k⟩:=h;obtain⟨i,rfl⟩:=fj ci.f rfl;cases (show some (Ox i)=some d from ci.hd);have sx:=ci.sx;obtain⟨lc,hi,tok,ab⟩:=qI ci rf (ao _);have hi:i.toNat<m.n:=hi;have L:=ci.ok.lk (by rw[<-ab.n];omega);have dB:aU st (.seen i)=(st,0::lu (nN st.table ((Vt st.table i.toNat).map fun(x:Nat×Nat)=>x.2))):=(jc (i:=i) (k:=fun _=>(st,0::lu (nN st.table ((Vt st.table i.toNat).map fun(x:Nat×Nat)=>x.2)))) (tZ sx.tab)).trans (if_pos rf);obtain⟨dl,hl⟩:=sx.line;obtain⟨dd,su,qz,_⟩:=sx.rep.gk;obtain⟨ds,hs⟩:=sx.rep.dn hi;have sb:=Cm ab tok L hi;refine⟨_,(aJ (bj (bF (GG T) hr.mono rfl T.oR.g T.oR.F.kp T.oR.b .nil bp (af (gg (aQ (pv 0) rfl) T.a6 T.bO.m (eN T) hr.mono T.bO.b .nil bp (af (gf (bF (mh T) hr.mono rfl T.d9.g T.d9.F.kp T.d9.b .nil bp (af (pv 0) (af (pv 1) ay))) T.cT T.i5.m (qT T) hr.mono T.i5.b .nil bp) ay)) ay)))),?_⟩;walk_at"";refine⟨_,_,dl,_,_,rfl,hl,T.e8,T.bP,rfl,?_⟩;refine⟨_,dd,_,rfl,qz,rfl,?_⟩;walk_at"";refine⟨l,x,g,m,[i],rfl,lc,hi,?_⟩;refine⟨_,ds,_,rfl,hs,rfl,?_⟩;walk_at"";refine⟨g,m,i.toNat,rfl,sx.rep,hi,by have:=sb.f;omega,fun H2 q2 s2 n2 hv2=>?_⟩;generalize hcs:eC (m.first i.toNat)=cs at hv2;rw[ab.first]at hcs;have nd:cs.Nodup:=by rw[<-hcs];exact Rl tok.str L _
  have yS:∀c,c∈cs↔Ma.j7 st.table i.toNat c:=fun c=>by rw[<-hcs];exact Kd L _ c
  have Xo:∀c∈cs,Ma.j7 st.table i.toNat c:=fun c hc=>(yS c).mp hc
  have ht:=Ma.Pq tok.str nd yS;have hcb:∀c∈cs,1<=c/\c<=st.table.cards.length:=fun c hc=>wB tok (Xo c hc)
  have NF:=ui nd hcb;have abC:=Ma.gY tok;have hsh:=wy tok cs;rw[<-ht]at dB;walk_at"";refine⟨g,m,_,cs,rfl,sx.rep.same s2,bW.of hv2,by omega,by rw[ab.sorts];exact hcb,fun H3 q3 s3 vT vS=>?_⟩;rw[Ck ab]at vS;walk_at"";refine⟨q3,cs.map (dw st.table),rfl,bW.of vS,by rw[ae];omega,fun H4 q4 ms s4 NA Vl hsd yR=>?_⟩;rw[Ma.vf (fun c _=>Ma.qx tok.cnt tok.su.kinds.1 c) Vl hsd,An]at yR;exact ci.tells k dB ((s2.trans s3).trans s4) yR
theorem ZP(T:Txt K mg ad):cF P w K mg base iC 6 ad.Le ad.X8 ["line","call"] (jM ad 9):=by
 refine T.O0.F.ok Zu (by rintro _ _ _ _ ⟨l,x,dc,na,ra,F,s,a,r,c,d,g,m,rfl,_⟩;rfl) (fun _ A _ s H vs Q E hr h=>?_)
 ·obtain⟨l,x,dc,na,ra,F,st,a,ns,c,d,g,m,rfl,ci,rf,k⟩:=h;obtain⟨i,rfl⟩:=fj ci.f rfl;cases (show some (OB i)=some d from ci.hd);have sx:=ci.sx;obtain⟨lc,hi,tok,ab⟩:=qI ci rf (ao _);have hi:i.toNat<m.n:=hi;have L:=ci.ok.lk (by rw[<-ab.n];omega);have dB:aU st (.gone i)=(st,0::lu (nN st.table (Vbdcaq.gone st.table i.toNat))):=(jc (i:=i) (k:=fun _=>(st,0::lu (nN st.table (Vbdcaq.gone st.table i.toNat)))) (tZ sx.tab)).trans (if_pos rf);obtain⟨dl,hl⟩:=sx.line;obtain⟨dd,su,qz,_⟩:=sx.rep.gk;obtain⟨ds,hs⟩:=sx.rep.dn hi;have sb:=Cm ab tok L hi;refine⟨_,(aJ (bj (bF (GG T) hr.mono rfl T.oR.g T.oR.F.kp T.oR.b .nil bp (af (gg (aQ (pv 0) rfl) T.a6 T.bO.m (eN T) hr.mono T.bO.b .nil bp (af (gf (bF (mh T) hr.mono rfl T.d9.g T.d9.F.kp T.d9.b .nil bp (af (pv 0) (af (pv 1) ay))) T.cT T.mO.m (z3 T) hr.mono T.mO.b .nil bp) ay)) ay)))),?_⟩;walk_at"";refine⟨_,_,dl,_,_,rfl,hl,T.e8,T.bP,rfl,?_⟩;refine⟨_,dd,_,rfl,qz,rfl,?_⟩;walk_at"";refine⟨l,x,g,m,[i],rfl,lc,hi,?_⟩;refine⟨_,ds,_,rfl,hs,rfl,?_⟩;walk_at"";refine⟨g,m,i.toNat,rfl,sx.rep,sx.pk.rN,hi,sb,fun H2 q2 cs s2 nd hm hv2=>?_⟩;have yS:∀c,c∈cs↔Ma.j7 st.table i.toNat c/\c∉cA st.table i.toNat/\c∉Yx st.table i.toNat (Ma.keyOf st.table c):=fun c=>by
   rw[hm,<-aap tok.str L];unfold abH;rw[ab.first,ab.last,ab.pools]
  have Xo:∀c∈cs,Ma.j7 st.table i.toNat c:=fun c hc=>((yS c).mp hc).1
  have ht:=Ma.Qm tok.str nd yS;have hcb:∀c∈cs,1<=c/\c<=st.table.cards.length:=fun c hc=>wB tok (Xo c hc)
  have NF:=ui nd hcb;have abC:=Ma.gY tok;have hsh:=wy tok cs;rw[<-ht]at dB;walk_at"";refine⟨g,m,_,cs,rfl,sx.rep.same s2,bW.of hv2,by omega,by rw[ab.sorts];exact hcb,fun H3 q3 s3 vT vS=>?_⟩;rw[Ck ab]at vS;walk_at"";refine⟨q3,cs.map (dw st.table),rfl,bW.of vS,by rw[ae];omega,fun H4 q4 ms s4 NA Vl hsd yR=>?_⟩;rw[Ma.vf (fun c _=>Ma.qx tok.cnt tok.su.kinds.1 c) Vl hsd,An]at yR;exact ci.tells k dB ((s2.trans s3).trans s4) yR
theorem ZS(T:Txt K mg ad):cF P w K mg base iC 6 ad.Lg ad.Yb ["line","call"] (jM ad 10):=by
 refine T.O2.F.ok Zw (by rintro _ _ _ _ ⟨l,x,dc,na,ra,F,s,a,r,c,d,g,m,rfl,_⟩;rfl) (fun _ A _ s H vs Q E hr h=>?_)
 ·obtain⟨l,x,dc,na,ra,F,st,a,ns,c,d,g,m,rfl,ci,rf,k⟩:=h;obtain⟨i,rfl⟩:=fj ci.f rfl;cases (show some (OD i)=some d from ci.hd);have sx:=ci.sx;obtain⟨lc,hi,tok,ab⟩:=qI ci rf (ao _);have hi:i.toNat<m.n:=hi;have L:=ci.ok.lk (by rw[<-ab.n];omega);have dB:aU st (.away i)=(st,0::lu (nN st.table (Vbdcaq.away st.table i.toNat))):=(jc (i:=i) (k:=fun _=>(st,0::lu (nN st.table (Vbdcaq.away st.table i.toNat)))) (tZ sx.tab)).trans (if_pos rf);obtain⟨dl,hl⟩:=sx.line;obtain⟨dd,su,qz,_⟩:=sx.rep.gk;obtain⟨ds,hs⟩:=sx.rep.dn hi;have sb:=Cm ab tok L hi;refine⟨_,(aJ (bj (bF (GG T) hr.mono rfl T.oR.g T.oR.F.kp T.oR.b .nil bp (af (gg (aQ (pv 0) rfl) T.a6 T.bO.m (eN T) hr.mono T.bO.b .nil bp (af (gf (bF (mh T) hr.mono rfl T.d9.g T.d9.F.kp T.d9.b .nil bp (af (pv 0) (af (pv 1) ay))) T.cT T.mP.m (z4 T) hr.mono T.mP.b .nil bp) ay)) ay)))),?_⟩;walk_at"";refine⟨_,_,dl,_,_,rfl,hl,T.e8,T.bP,rfl,?_⟩;refine⟨_,dd,_,rfl,qz,rfl,?_⟩;walk_at"";refine⟨l,x,g,m,[i],rfl,lc,hi,?_⟩;refine⟨_,ds,_,rfl,hs,rfl,?_⟩;walk_at"";refine⟨g,m,i.toNat,rfl,sx.rep,sx.pk.rN,hi,sb,fun H2 q2 cs s2 nd hm hv2=>?_⟩;have yS:∀c,c∈cs↔Ma.j7 st.table i.toNat c/\c∉cA st.table i.toNat/\c∈Yx st.table i.toNat (Ma.keyOf st.table c)/\Vbdcaq.front st.table i.toNat≠some (Ma.keyOf st.table c):=fun c=>by
   rw[hm,<-aaK tok.str L];unfold abT;rw[Yn ab,ab.last,ab.pools]
  have Xo:∀c∈cs,Ma.j7 st.table i.toNat c:=fun c hc=>((yS c).mp hc).1
  have ht:=Ma.QF tok.str nd yS;have hcb:∀c∈cs,1<=c/\c<=st.table.cards.length:=fun c hc=>wB tok (Xo c hc)
  have NF:=ui nd hcb;have abC:=Ma.gY tok;have hsh:=wy tok cs;rw[<-ht]at dB;walk_at"";refine⟨g,m,_,cs,rfl,sx.rep.same s2,bW.of hv2,by omega,by rw[ab.sorts];exact hcb,fun H3 q3 s3 vT vS=>?_⟩;rw[Ck ab]at vS;walk_at"";refine⟨q3,cs.map (dw st.table),rfl,bW.of vS,by rw[ae];omega,fun H4 q4 ms s4 NA Vl hsd yR=>?_⟩;rw[Ma.vf (fun c _=>Ma.qx tok.cnt tok.su.kinds.1 c) Vl hsd,An]at yR;exact ci.tells k dB ((s2.trans s3).trans s4) yR
theorem WW(T:Txt K mg ad):cF P w K mg base iC 6 ad.Fn ad.Sx ["line","call"] (jM ad 17):=by
 refine T.J1.F.ok We (by rintro _ _ _ _ ⟨l,x,dc,na,ra,F,s,a,r,c,d,g,m,rfl,_⟩;rfl) (fun _ A _ s H vs Q E hr h=>?_)
 ·obtain⟨l,x,dc,na,ra,F,st,a,ns,c,d,g,m,rfl,ci,rf,k⟩:=h;obtain⟨i,rfl⟩:=fj ci.f rfl;cases (show some (LY i)=some d from ci.hd);have sx:=ci.sx;have rf:mV i=0:=rf;have xu:bf i 0 3=true:=by
   unfold mV at rf;split at rf
   ·rename_i e;exact e
   ·cases rf
  obtain⟨i0,i3⟩:=Ma.gj.mp xu;obtain⟨dl,hl⟩:=sx.line;obtain⟨dd,su,ds,rca,ka,sa,ss,qz,Z9,hrc,hk,hsh,_,_⟩:=sx.rep.setup;have e4:m.sheets.length=4/\m.sheets=st.table.sheets:=by
   rcases sx.tab with ⟨e1,e2⟩|⟨tok,ab⟩
   ·rw[e1,e2];exact⟨rfl,rfl⟩
   ·rw[ab.sheets];exact⟨by rw[tok.sh,Ma.jR],rfl⟩
  have lM:i.toNat<ss.length:=by rw[hsh.len];omega
  have afG:i.toNat<m.sheets.length:=by omega
  have hit:=hsh.item i.toNat ss[i.toNat] m.sheets[i.toNat] (aB lM) (aB afG);have dB:aU st (.sheet i)=(st,0::Vbdcaq.ints m.sheets[i.toNat]):=by
   show bI st [(-1,!bf i 0 3)] (fun _=>(st,0::Vbdcaq.ints (st.table.sheets.getD i.toNat [])))=_;unfold bI;rw[xu,<-e4.2,Ma.getD_in afG];rfl
  have ei:i=((i.toNat:Nat):Int):=by omega
  refine⟨_,(aJ (bj (eB cj (aQ (aQ (aQ (pv 0) rfl) rfl) rfl) (eB cj (aQ (pv 1) rfl) aS (fun _ _=>rfl)) (fun _ _=>rfl)))),?_⟩;walk_at"";refine⟨_,_,dl,_,_,rfl,hl,T.e8,T.bP,rfl,?_⟩;refine⟨_,_,dd,_,_,rfl,qz,T.a6,T.f9,rfl,?_⟩;refine⟨_,_,ds,_,_,rfl,Z9,T.iP,T.nh,rfl,?_⟩;walk_at"";refine⟨_,_,dc,_,_,rfl,ci.hx,T.dW,T.cX,rfl,?_⟩;walk_at"";refine eO (bW.of ci.rL) (lX (ao _)) ?_;rw[show gL [i]=((i.toNat:Nat):Int)from ei];refine eO (bW.of hsh.lst) (v:=V.ref ss[i.toNat]) ?_ ?_
  ·refine ya (by omega) ?_;rw[bB,cI,aB lM];rfl
  ·refine ci.tells k dB (a7.refl _) ?_;rw[hit];unfold Vbdcaq.ints;rw[cO];rfl
def truthOf(t:Table)(p:bA):List Int:=[(p.origin:Int),(p.visits:Int),(p.cards.length:Int)]++cM t p.cards
theorem WU(T:Txt K mg ad):cF P w K mg base iC 6 ad.Fl ad.Sv ["line","call"] (jM ad 16):=by
 refine T.JZ.F.ok F0 (by rintro _ _ _ _ ⟨l,x,dc,na,ra,F,s,a,r,c,d,g,m,rfl,_⟩;rfl) (fun _ A _ s H vs Q E hr h=>?_)
 ·obtain⟨l,x,dc,na,ra,F,st,a,ns,c,d,g,m,rfl,ci,rf,k⟩:=h;obtain⟨i,rfl⟩:=fj ci.f rfl;cases (show some (LW i)=some d from ci.hd);have sx:=ci.sx;obtain⟨lc,hi,tok,ab⟩:=qI ci rf (ao _);have dB:aU st (.truth i)=(st,0::(bc st.table i.toNat).flatMap (truthOf st.table)):=(jc (i:=i) (k:=fun _=>(st,0::(bc st.table i.toNat).flatMap (truthOf st.table))) (tZ sx.tab)).trans (if_pos rf);have hi:i.toNat<m.n:=hi;have vV:i.toNat<st.table.setup.seats:=by rw[<-ab.n];exact hi
  obtain⟨dl,hl⟩:=sx.line;obtain⟨dd,su,qz,_⟩:=sx.rep.gk;obtain⟨ds,hs⟩:=sx.rep.dn hi;have k7:=sx.rep.row hi;have Jq:=Ma.ue tok.str vV;have NF:=Ma.gY tok;have Xt:∀p∈bc st.table i.toNat,(∀c∈p.cards,1<=c/\c<=st.table.cards.length)/\p.cards.length<=20:=fun p hp=>⟨Od tok vV hp,bN (Ma.u5 tok vV hp) tok.su.Ku.2⟩
  rw[<-ab.queues]at dB Jq Xt;generalize hQ:m.queues i.toNat=qs at*;have aho:∀j,((qs.take j).flatMap (truthOf st.table)).length<=23*j:=by
   intro j;have:∀l:List bA,(∀p∈l,p.cards.length<=20)->(l.flatMap (truthOf st.table)).length<=23*l.length:=by
    intro l;induction l with
    |nil=>intro _;exact bK _
    |cons p l ih=>
     intro h;rw[dE,ai,az];have h1:=ih fun p hp=>h p (aA _ hp)
     have h2:=h p ah;have h3:(truthOf st.table p).length=3+p.cards.length:=by unfold truthOf;rw[ai,Ma.ou];rfl
     omega
   refine bN (this _ fun p hp=>(Xt p (p6 hp)).2) ?_;rw[bt];omega
  refine⟨_,(aC (cf (i:=2) F0.nd rfl (be rfl) (fg ay))
   (aC (jP ck rfl (hJ (aQ (bF (mh T) hr.mono rfl T.d9.g T.d9.F.kp T.d9.b .nil bp (af (pv 0) (af (pv 1) ay))) rfl)) (cv (i:=3) F0.nd rfl (be rfl))
   (aC (eu (lr a9 dH dG kZ (pv 2) (af (fg (af (aQ (pv 3) rfl) (af (aQ (pv 3) rfl) (af (bH bg (by rfl) T.jx aV (af (aQ (pv 3) rfl) ay)) ay)))) ay)))
   (aJ (eu (lr a9 dH dG kZ (pv 2) (af (gg (aQ (pv 0) rfl) T.a6 T.bO.m (eN T) hr.mono T.bO.b .nil bp (af (aQ (pv 3) rfl) ay)) ay))))))
   (aJ (bj (pv 2))))),?_⟩
  walk_at"";refine⟨by decide,fun q hq=>?_⟩;have s0:=aP (.lst []) hq;walk_at"";refine⟨l,x,g,m,[i],rfl,lc.same s0,hi,?_⟩;refine⟨_,_,ds,_,_,rfl,s0 _ _ hs,T.cT,T.fh,rfl,?_⟩;walk_at"";refine⟨_,rfl,⟨_,bW.of (s0 _ _ k7)⟩,?_⟩;refine qZ (xs:=qs.map fun p=>V.ref (g (.pack p.origin))) (fun j σ H'=>∃v3:Option V,σ=[some (.ref l),some (.ref x),some (.ref q),v3]/\a7 H H'/\H' q=some (.lst (((qs.take j).flatMap (truthOf st.table)).map V.int)))
   ⟨none,rfl,s0,ak⟩ (fun j σ H' _ ⟨_,_,s1,_⟩=>s1.seq (bW.of k7)) ?_ ?_
  ·rintro j y σ H' hy ⟨v3,rfl,s1,lU⟩;obtain⟨p,hp,rfl⟩:=get_map hy;have Vl:p∈qs:=bC hp;have Qk:j<qs.length:=(aw.mp hp).1;have Jr:m.pk p.origin=some p:=sx.pk.rN _ hi p (by rw[hQ];exact Vl);obtain⟨dp,ca,hpp,hc,_⟩:=sx.rep.pack Jr;have ac2:=s1 _ _ hpp;have tl:=aho j;walk_at"";refine⟨.inl ⟨rfl,_,bW.of lU⟩,?_⟩;walk_at"";refine⟨_,_,dp,_,_,rfl,ac2,T.fk,T.tL,rfl,?_⟩;walk_at"";refine⟨_,_,dp,_,_,rfl,ac2,T.fk,T.oW,rfl,?_⟩;walk_at"";refine⟨_,_,dp,_,_,rfl,ac2,T.fk,T.eA,rfl,?_⟩;walk_at"";refine⟨_,_,rfl,.inl (bW.of (s1 _ _ hc)),?_⟩;rw[ae];walk_at"";refine⟨by show 3<=sizeLine;decide,fun p1 zh=>?_⟩;walk_at"";have nqp:q≠p1:=aR lU zh;refine Bp (bq zh lU) ak (YO ?_) ?_
   ·rw[ae];show _+3<=_;omega
   have s2:a7 H (upd (upd H' p1 (.lst [nV p.origin,nV p.visits,.int (p.cards.length:Int)])) q (.lst (((qs.take j).flatMap (truthOf st.table)).map V.int++[nV p.origin,nV p.visits,.int (p.cards.length:Int)]))):=a7.put hq (s1.trans (aP _ zh));have uH:upd (upd H' p1 (.lst [nV p.origin,nV p.visits,.int (p.cards.length:Int)])) q (.lst (((qs.take j).flatMap (truthOf st.table)).map V.int++[nV p.origin,nV p.visits,.int (p.cards.length:Int)])) q=_:=ak;generalize upd (upd H' p1 (.lst [nV p.origin,nV p.visits,.int (p.cards.length:Int)])) q (.lst (((qs.take j).flatMap (truthOf st.table)).map V.int++[nV p.origin,nV p.visits,.int (p.cards.length:Int)]))=H2 at s2 uH⊢;walk_at"";refine⟨.inl ⟨rfl,_,bW.of uH⟩,?_⟩;walk_at"";refine⟨_,_,dl,_,_,rfl,s2 _ _ hl,T.e8,T.bP,rfl,?_⟩;refine⟨_,dd,_,rfl,s2 _ _ qz,rfl,?_⟩;walk_at"";refine⟨_,_,dp,_,_,rfl,s2 _ _ hpp,T.fk,T.eA,rfl,?_⟩;walk_at"";refine⟨g,m,_,p.cards,rfl,sx.rep.same s2,bW.of (s2 _ _ hc),by have:=(Xt p Vl).2;omega,by rw[ab.sorts];exact(Xt p Vl).1,fun H3 q3 s3 vT vS=>?_⟩;rw[t6 ab]at vS;walk_at"";refine Bp (s3 _ _ uH) vS (YO ?_) ?_
   ·rw[ai,ae,ae,Ma.ou];have:=(Xt p Vl).2;show _+3+_<=_;omega
   ·refine⟨_,rfl,a7.put hq (s2.trans s3),?_⟩;rw[take_snoc hp,gC,aF,dF];have e:(([p]:List bA).flatMap (truthOf st.table)).map V.int=[nV p.origin,nV p.visits,.int (p.cards.length:Int)]++(cM st.table p.cards).map V.int:=by
     rw[dE,Y8,cV];rfl
    rw[e];exact ak
  ·rintro σ H' ⟨v3,rfl,s1,lU⟩;rw[ae,bJ]at lU;walk_at"";exact ci.tells k dB s1 lU
theorem count_eq(t:Table)(l:List Nat)(i:Int):((cM t l).count i)=(l.filter fun c=>(dw t c:Int)==i).length:=by
 unfold cM Vbdcaq.ints;rw[cO,List.count_eq_countP,List.countP_map,HR];rfl
theorem PN(T:Txt K mg ad):cF P w K mg base iC 6 ad.yD ad.JE ["line","call"] (jM ad 12):=by
 refine T.Ce.F.ok uV (by rintro _ _ _ _ ⟨l,x,dc,na,ra,F,s,a,r,c,d,g,m,rfl,_⟩;rfl) (fun _ A _ s H vs Q E hr h=>?_)
 ·obtain⟨l,x,dc,na,ra,F,st,a,ns,c,d,g,m,rfl,ci,rf,k⟩:=h;obtain⟨i,rfl⟩:=fj ci.f rfl;cases (show some (JO i)=some d from ci.hd);have sx:=ci.sx;have rf:Fb m i=0:=rf;have xu:bf i 0 63=true/\¬(m.kinds.length:Int)<=i:=by
   unfold Fb qr at rf;split at rf
   ·rename_i e;split at rf
    ·cases rf
    ·rename_i e2;exact⟨e,e2⟩
   ·cases rf
  obtain⟨tok,ab⟩:Ma.fw st.table/\nR st.table m:=by
   rcases sx.tab with ⟨e1,e2⟩|h
   ·rw[e2]at xu;exact absurd (Ma.gj.mp xu.1).1 (fun h=>xu.2 h)
   ·exact h
  have dB:aU st (.holders i)=(st,0::(aG m.n).map fun j=>(((cM st.table (cA st.table j)).count i:Nat):Int)):=by
   show bI st [(-1,!bf i 0 63),(-2,decide ((st.table.setup.kinds.length:Int)<=i))] (fun _=>(st,0::st.table.pools.map fun l=>((l.filter fun c=>(dw st.table c:Int)==i).length:Int)))=_;unfold bI;rw[xu.1,<-ab.kinds,decide_eq_false xu.2];show(st,0::_)=_
   congr 2
   apply lI
   ·rw[ae,ae,ba,tok.str.pl,ab.n]
   ·intro j h1 h2;rw[ae]at h1;rw[jJ,jJ,mJ,count_eq];unfold cA;rw[Ma.getD_in h1]
  obtain⟨dl,hl⟩:=sx.line;obtain⟨dd,su,qz,_⟩:=sx.rep.gk;have Az:H (g .seats)=_:=sx.rep.lst (r:=.seats) trivial fun _ e=>e
  have hn8:=VP sx.tab;have NF:=Ma.gY tok;refine⟨_,(aC (cf (i:=2) uV.nd rfl (jh rfl) (eB cj (aQ (pv 1) rfl) aS (fun _ _=>rfl)))
   (aJ (bj (si rfl uV.nd (hJ (aQ (aQ (pv 0) rfl) rfl)) (gZ (N:=["line","call","k","seat"]) (sc:=aL Cr) (own:=[("seat",3)]) (by decide+kernel)) (fun _ _ _ _ _=>(cv (i:=3) uV.nd rfl (be rfl) (jh rfl))) (fun _ _ _ _ _=>jO) (fun _ _ _ _ _=>(acD (K':=K) (r:=Rt K) rfl a9 PySem.F.slot_list_count PySem.F.type_list_count Uc (gg (m9 (K':=K) rfl (pv 0) rfl) T.a6 T.bO.m (eN T) hr.mono T.bO.b .nil bp (af (m9 (K':=K) rfl (pv 3) rfl) ay)) (af (pv 2) ay))))))),?_⟩
  walk_at"";refine⟨_,_,dc,_,_,rfl,ci.hx,T.dW,T.cX,rfl,?_⟩;walk_at"";refine eO (bW.of ci.rL) (lX (ao _)) ?_;walk_at"";refine⟨_,_,dl,_,_,rfl,hl,T.e8,T.bP,rfl,?_⟩;refine⟨_,_,dd,_,_,rfl,qz,T.a6,T.c7,rfl,?_⟩;walk_at"";refine⟨_,rfl,⟨_,bW.of Az⟩,fun D hD=>?_⟩;refine k5 (xs:=(aG m.n).map fun i=>V.ref (g (.dn i))) (fun j H'=>a7 H H'/\H' D=some (.lst (((aG j).map fun j=>(((cM st.table (cA st.table j)).count i:Nat):Int)).map V.int))) ⟨aP _ hD,ak⟩ (fun j H' _ h=>h.1.seq (bW.of Az)) ?_ ?_
  ·rintro j y H' hy ⟨s1,mB⟩;obtain⟨hj,rfl⟩:=IS hy;obtain⟨ds,hs⟩:=sx.rep.dn hj;have Xs:=sx.rep.pool hj;rw[ab.pools]at Xs;have C0:j<st.table.setup.seats:=by rw[<-ab.n];exact hj
   walk_at"";refine⟨rfl,?_⟩;walk_at"";refine oH ?_;walk_at"";refine⟨_,_,dl,_,_,rfl,s1 _ _ hl,T.e8,T.bP,rfl,?_⟩;refine⟨_,dd,_,rfl,s1 _ _ qz,rfl,?_⟩;walk_at"";refine⟨_,_,ds,_,_,rfl,s1 _ _ hs,T.cT,T.my,rfl,?_⟩;walk_at"";refine⟨g,m,_,cA st.table j,rfl,sx.rep.same s1,bW.of (s1 _ _ Xs),by have:=Ma.uZ tok.str C0;omega,by rw[ab.sorts];exact Ln tok C0,fun H2 q2 s2 n2 uH=>?_⟩;rw[t6 ab]at uH;walk_at"";refine⟨.inl ⟨rfl,_,bW.of uH⟩,?_⟩;walk_at"";refine⟨q2,cM st.table (cA st.table j),i,rfl,rfl,bW.of uH,?_⟩;walk_at"";refine⟨_,s2 _ _ mB,zg ?_,a7.put hD (s1.trans s2),?_⟩
   ·rw[ae,ae,ba];omega
   ·rw[dj,aF,aF];exact ak
  ·rintro H' ⟨s1,mB⟩;rw[ae,ba]at mB;exact ci.tells k dB s1 mB
def xW(t:Table)(c:Nat):Nat:=(t.setup.kinds[dw t c]?).elim 0 fun k=>k.colours
theorem adY:∀b,b<4->∀c,c<16->decide (YF ((c:Nat):Int) ((2^b:Nat):Int)=((2^b:Nat):Int))=c.testBit b:=by decide
def bits(t:Table)(cs:List Nat)(b:Nat):List Nat:=(cs.filter fun c=>(xW t c).testBit b)
theorem aaI{t:Table}(h:Ma.fw t)(cs:List Nat)(b:Nat):(cs.filter fun c=>(t.setup.kinds[dw t c]?).any fun k=>k.colours.testBit b)=bits t cs b:=by
 unfold bits;apply El;intro c _;unfold xW;have hl:=Ma.qx h.cnt h.su.kinds.1 c;rw[aB hl];rfl
theorem UY(t:Table)(cs:List Nat)(c b:Nat):bits t (cs++[c]) b=bits t cs b++(if (xW t c).testBit b=true then [c]else []):=by
 unfold bits;rw[Cb]
 congr 1
 rw[gW];rfl
theorem adT{t:Table}(h:Ma.fw t)(c:Nat):xW t c<16:=by
 unfold xW;have hl:=Ma.qx h.cnt h.su.kinds.1 c;rw[aB hl];have:=(h.su.kb _ (df hl)).2.1;show(t.setup.kinds[dw t c]).colours<16;omega
theorem PQ(T:Txt K mg ad):cF P w K mg base iC 6 ad.yE ad.JF ["line","call"] (jM ad 11):=by
 refine T.Cf.F.ok md (by rintro _ _ _ _ ⟨l,x,dc,na,ra,F,s,a,r,c,d,g,m,rfl,_⟩;rfl) (fun _ A _ s H vs Q E hr h=>?_)
 ·obtain⟨l,x,dc,na,ra,F,st,a,ns,c,d,g,m,rfl,ci,rf,k⟩:=h;obtain⟨i,rfl⟩:=fj ci.f rfl;cases (show some (JP i)=some d from ci.hd);have sx:=ci.sx;obtain⟨lc,hi,tok,ab⟩:=qI ci rf (ao _);have dB:aU st (.colours i)=(st,0::(aG 4).map fun b=>((bits st.table (cA st.table i.toNat) b).length:Int)):=by
   have h1:aU st (.colours i)=(st,0::(aG 4).map fun b=>(((cA st.table i.toNat).filter fun c=>(st.table.setup.kinds[dw st.table c]?).any fun k=>k.colours.testBit b).length:Int)):=(jc (i:=i) (k:=fun _=>(st,0::(aG 4).map fun(b:Nat)=>(((cA st.table i.toNat).filter fun c=>(st.table.setup.kinds[dw st.table c]?).any fun(k:iI)=>k.colours.testBit b).length:Int))) (tZ sx.tab)).trans (if_pos rf);rw[h1]
   congr 2
   apply bU
   intro b _;rw[aaI tok]
  have hi:i.toNat<m.n:=hi;have vV:i.toNat<st.table.setup.seats:=by rw[<-ab.n];exact hi
  obtain⟨dl,hl⟩:=sx.line;obtain⟨dd,su,ds,rca,ka,sa,ss,qz,Z9,hrc,hk,hsh,_,_⟩:=sx.rep.setup;obtain⟨as,hka,hal,Jt⟩:=hk.ex;have tQ:=Ma.uZ tok.str vV;have NF:=Ma.gY tok;generalize hcs:cA st.table i.toNat=cs at*;refine⟨_,(aC (Gn (i:=2) rfl md.nd rfl rfl (J7 rfl rfl rfl (by decide+kernel)) (hJ (bF (RJ T) hr.mono rfl T.Cd.g T.Cd.F.kp T.Cd.b .nil bp (af (pv 0) (af (pv 1) ay)))) (gZ (N:=["line","call","held","counts","colour","number","each"]) (sc:=aL yu) (own:=[("number",5)]) (by decide+kernel)) (fun _ _ _ _ _=>(cv (i:=5) md.nd rfl (be rfl) (jh rfl))) (fun _ _ _ _ _=>jO) (fun _ _ _ _ _=>(m9 (K':=K) rfl (eB (r:=MQ K) cj (m9 (K':=K) rfl (m9 (K':=K) rfl (m9 (K':=K) rfl (pv 0) rfl) rfl) rfl) (pv 5) (fun _ _=>rfl)) rfl)))
   (aC (cf (i:=3) md.nd rfl (be rfl) (fg ay))
   (aC (jP ck rfl (acy (wV rfl T.UW)) (cv (i:=4) md.nd rfl (jh rfl))
   (aJ (eu (lr a9 cK cJ ju (pv 3) (af (bH bg (by rfl) T.jx aV (af (si rfl md.nd (hJ (pv 2)) (gZ (N:=["line","call","held","counts","colour","number","each"]) (sc:=aL yu) (own:=[("each",6)]) (by decide+kernel)) (fun _ _ _ _ _=>(cv (i:=6) md.nd rfl (be rfl) (jh rfl))) (fun _ _ _ _ _=>(Rx (eP vC (gF acG (pv 6) (pv 4)) (pv 4) (fP _)))) (fun _ _ _ _ _=>(pv 6))) ay)) ay)))))
   (aJ (bj (pv 3)))))),?_⟩
  walk_at"";refine⟨l,x,g,m,[i],st.table,rfl,lc,hi,tok,ab,fun H1 q1 s1 n1 YS=>?_⟩;have YS:H1 q1=some (.lst ((cM st.table cs).map V.int)):=by rw[<-hcs];exact YS
  walk_at"";refine⟨_,rfl,⟨_,bW.of YS⟩,fun D hD=>?_⟩;have YR:(cM st.table cs).map V.int=cs.map fun c=>nV (dw st.table c):=by
   unfold cM Vbdcaq.ints;rw[cO,cO];rfl
  rw[YR]at YS;refine k5 (xs:=cs.map fun c=>nV (dw st.table c)) (fun j H'=>a7 H1 H'/\H' D=some (.lst ((cs.take j).map fun c=>nV (xW st.table c)))) ⟨aP _ hD,ak⟩ (fun j H' _ h=>h.1.seq (bW.of YS)) ?_ ?_
  ·rintro j y H' hy ⟨s2,mB⟩;obtain⟨c,hc,rfl⟩:=get_map hy;have t2:=s1.trans s2;have Qk:j<cs.length:=(aw.mp hc).1;have Ie:=Ma.qx tok.cnt tok.su.kinds.1 c;have afr:dw st.table c<m.kinds.length:=by rw[ab.kinds];exact Ie
   have hsa:dw st.table c<as.length:=by rw[hal];exact afr
   obtain⟨dk,hdk⟩:=Jt _ _ _ (aB hsa) (aB afr);have ajo:(m.kinds[dw st.table c]).colours=xW st.table c:=by
    unfold xW;rw[aB Ie];simp only[ab.kinds];rfl
   walk_at"";refine⟨rfl,?_⟩;walk_at"";refine oH ?_;walk_at"";refine⟨_,_,dl,_,_,rfl,t2 _ _ hl,T.e8,T.bP,rfl,?_⟩;refine⟨_,_,dd,_,_,rfl,t2 _ _ qz,T.a6,T.f9,rfl,?_⟩;refine⟨_,_,ds,_,_,rfl,t2 _ _ Z9,T.iP,T.tK,rfl,?_⟩;walk_at"";refine eO (bW.of (t2 _ _ hka)) (v:=V.ref as[dw st.table c]) ?_ ?_
   ·refine ya (by omega) ?_;rw[bB,cI,aB hsa];rfl
   refine⟨_,_,dk,_,_,rfl,t2 _ _ hdk,T.yH,T.xf,rfl,?_⟩;refine⟨_,mB,zg ?_,a7.put hD s2,?_⟩
   ·rw[ae,bt];omega
   ·rw[take_snoc hc,aF];show upd H' D (.lst (_++[V.int ((m.kinds[dw st.table c]).colours:Nat)])) D=_;rw[ajo];exact ak
  ·rintro H2 ⟨s2,hD2⟩;rw[ae,bJ]at hD2;have t2:=s1.trans s2;walk_at"";refine⟨by decide,fun q3 vT=>?_⟩;have s3:=aP (.lst []) vT;walk_at"";refine⟨_,rfl,⟨_,T.IT _⟩,?_⟩;refine aay (xs:=[V.int 1,.int 2,.int 4,.int 8]) (fun j σ H'=>∃v4 v5 v6:Option V,σ=[some (.ref l),some (.ref x),some (.ref D),some (.ref q3),v4,v5,v6]/\a7 H2 H'/\H' q3=some (.lst (((aG j).map fun b=>((bits st.table cs b).length:Int)).map V.int)))
    ⟨_,_,_,rfl,s3,ak⟩ (fun j σ H' _ _=>T.IT _) ?_ ?_
   ·rintro b y σ H' hy ⟨v4,v5,v6,rfl,s4,NA⟩;have hb:b<4:=(aw.mp hy).1;have ey:y=V.int ((2^b:Nat):Int):=by
     match b,hb with
     |0,_=>exact(ax hy).symm
     |1,_=>exact(ax hy).symm
     |2,_=>exact(ax hy).symm
     |3,_=>exact(ax hy).symm
    subst ey;have hD4:=s4 _ _ hD2;walk_at"";refine⟨.inl ⟨rfl,_,bW.of NA⟩,?_⟩;walk_at"";refine⟨_,rfl,⟨_,bW.of hD4⟩,fun D5 hD5=>?_⟩;refine k5 (xs:=cs.map fun c=>nV (xW st.table c)) (fun j H''=>a7 H' H''/\H'' D5=some (.lst ((bits st.table (cs.take j) b).map fun c=>nV (xW st.table c)))) ⟨aP _ hD5,ak⟩ (fun j H' _ h=>h.1.seq (bW.of hD4)) ?_ ?_
    ·rintro j y H'' hy ⟨s5,XC⟩;obtain⟨c,hc,rfl⟩:=get_map hy;have Qk:j<cs.length:=(aw.mp hc).1;walk_at"";refine⟨rfl,?_⟩;walk_at"";rw[take_snoc hc,UY,adY b hb _ (adT tok c)];refine ik (fun cb=>?_) fun cb=>?_
     ·rw[if_pos cb,aF];walk_at"";refine⟨_,XC,zg ?_,a7.put hD5 s5,ak⟩;rw[ae];have:=kq (fun c=>(xW st.table c).testBit b) (cs.take j);rw[bt]at this;unfold bits;omega
     ·rw[if_neg cb,cV];exact⟨s5,XC⟩
    ·rintro H5 ⟨s5,XC⟩;rw[ae,bJ]at XC;walk_at"";refine⟨_,_,rfl,.inl (bW.of XC),?_⟩;rw[ae];walk_at"";refine xx (s5 _ _ NA) (zg (by rw[ae,ae,ba];omega)) ?_;refine⟨_,_,_,rfl,?_,?_⟩
     ·exact a7.put vT (s4.trans s5)
     ·rw[dj,aF,aF];exact ak
   ·rintro σ H3 ⟨v4,v5,v6,rfl,s4,NA⟩;walk_at"";exact ci.tells k dB (t2.trans s4) NA
theorem acQ{σ:L2.St}{x:Str}{g:L2.TG}{tt:TT}{te:TE}{vs:List Nat}{H1:Hp}{D:Addr}{Qd:Hp->Prop}(Pv:Nat->Hp->Prop)(h0:Pv 0 (upd H1 D (.lst [])))
  (hs:∀i c H,x.cps[i]? =some c->Pv i H->g (.str ⟨#[c]⟩) (wipe σ vs) H fun σ2 H2=>wipe σ2 vs=wipe σ vs/\tt σ2 H2 fun b H3=>
   if b=true then te σ2 H3 fun y H4=>∃acc,H4 D=some (.lst acc)/\acc.length<sizeLine/\Pv (i+1) (upd H4 D (.lst (acc++[y])))else Pv (i+1) H3)(hd:∀H,Pv x.cps.size H->Qd H):
  ∃W:Nat->Nat->Hp->Prop,(∃m,W 0 m (upd H1 D (.lst [])))/\∀i m H,W i m H->
   ((Its x).stop i H/\Qd H)\/((Its x).go i H/\∃Nx:Hp->Prop,(∀H',Nx H'->∃m',m'<m/\W (i+1) m' H')/\∀y H',(Its x).LP i H y H'->g y (wipe σ vs) H' fun σ2 H2=>wipe σ2 vs=wipe σ vs/\tt σ2 H2 fun b H3=>
    if b=true then te σ2 H3 fun y H4=>∃acc,H4 D=some (.lst acc)/\acc.length<sizeLine/\Nx (upd H4 D (.lst (acc++[y])))else Nx H3):=by
 refine⟨fun i m H=>m=x.cps.size-i/\i<=x.cps.size/\Pv i H,⟨x.cps.size,by simp,bK _,h0⟩,?_⟩;rintro i m H ⟨rfl,hi,p⟩;by_cases lM:i<x.cps.size
 ·refine .inr ⟨lM,Pv (i+1),fun H' p'=>⟨x.cps.size-(i+1),by omega,rfl,lM,p'⟩,fun y H' z=>?_⟩;obtain⟨rfl,c,hc,rfl⟩:=z;exact hs i c _ hc p
 ·have e:i=x.cps.size:=by omega
  subst e;exact .inl ⟨ao _,hd H p⟩
theorem adz{σ:L2.St}{H:Hp}{te:TE}{R:It->Hp->Prop}(k:te σ H fun v H1=>∃x,v=.str x/\R (Its x) H1):afm te σ H R:=k
theorem aaD:∀n,n<100->(Str.ofString (toString ((n:Nat):Int))).cps.toList=gp n/\((n:Nat):Int).natAbs.log2<1920:=by decide+kernel
def ab6:Sp:=fun vs H Q _=>∃n:Nat,A3 (vs=[.int (n:Int)]) (n<100) (∀H' q,a7 H H'->H q=none->H' q=some (.lst ((gp n).map nV))->Q (.ref q) H')
theorem sj(T:Txt K mg ad):cF P w K mg base iC 1 ad.uq ad.uv ["number"] ab6:=by
 refine T.gG.F.ok mW (by rintro _ _ _ _ ⟨n,rfl,_⟩;rfl) (fun _ A _ s H vs Q E hr h=>?_)
 ·obtain⟨n,rfl,hn,k⟩:=h;obtain⟨e1,e2⟩:=aaD n hn;have hdl:=Ma.ve hn;refine⟨_,(aJ (bj (si rfl mW.nd (acz (kY Lo (by rfl) T.ajy PyProof.Rows.boot_str (af (pv 0) ay))) (gZ (N:=["number","sign"]) (sc:=aL oz) (own:=[("sign",1)]) (by decide+kernel)) (fun _ _ _ _ _=>(cv (i:=1) mW.nd rfl (be rfl) (jh rfl))) (fun _ _ _ _ _=>jO) (fun _ _ _ _ _=>(bH Yk (by rfl) T.ajz PyProof.Rows.boot_ord (af (pv 1) ay)))))),?_⟩;walk_at"";refine adz ?_;walk_at"";refine⟨_,rfl,e2,_,rfl,fun D hD=>?_⟩;have hz:(Str.ofString (toString ((n:Nat):Int))).cps.size=(gp n).length:=by rw[<-e1,aI]
  refine acQ (fun j H'=>a7 H H'/\H' D=some (.lst (((gp n).take j).map nV))) ⟨aP _ hD,ak⟩ ?_ ?_
  ·rintro j c H' hc ⟨s1,mB⟩;rw[<-gM,e1]at hc;walk_at"";refine⟨rfl,?_⟩;walk_at"";refine oH ?_;walk_at"";refine⟨_,rfl,rfl,?_⟩;walk_at"";refine⟨_,mB,zg ?_,a7.put hD s1,?_⟩
   ·rw[ae,bt];omega
   ·rw[take_snoc hc,aF];exact ak
  ·rintro H' ⟨s1,mB⟩;rw[hz,bJ]at mB;exact k H' D s1 hD mB
def ma(pl:List Nat):List Nat:=pl.flatMap fun k=>32::gp k
theorem Mu(pl:List Nat)(k:Nat):ma (pl++[k])=ma pl++32::gp k:=by unfold ma;rw[gC];simp
theorem uT:∀ {pl:List Nat},(∀k∈pl,k<100)->(ma pl).length<=3*pl.length
 |[],_=>ao _
 |k::pl,h=>by
  have h1:=uT (pl:=pl) fun j hj=>h j (aA _ hj)
  have h2:=Ma.ve (h k ah);have e:ma (k::pl)=(32::gp k)++ma pl:=dE;rw[e,ai,az,az];omega
def Zf(K:aq):Sp:=fun vs H Q _=>E3 fun(i:Nat) (b:Addr) (pl:List Nat)=>A6 (vs=[.int (i:Int),.ref b]) (H b=some (.lst (pl.map nV))) (i<100) (pl.length<=1000) (∀k∈pl,k<100) (∀H' q,a7 H H'->H q=none->H' q=some (.lst ((jz (i,pl)).map nV))->Q (.ref q) H')
theorem Ex(T:Txt K mg ad):cF P w K mg base iC 2 ad.xy ad.xI ["i","places"] (Zf K):=by
 refine T.mK.F.ok pK (by rintro _ _ _ _ ⟨i,b,pl,rfl,_⟩;rfl) (fun _ A _ s H vs Q E hr h=>?_)
 ·obtain⟨i,b,pl,rfl,hb,hi,hl,hk,k⟩:=h;have di:=Ma.ve hi;refine⟨_,(aC (cf (i:=2) pK.nd rfl (be rfl) (bF (sj T) hr.mono rfl T.gG.g T.gG.F.kp T.gG.b .nil bp (af (pv 0) ay)))
   (aC (jP ck rfl (hJ (pv 1)) (cv (i:=3) pK.nd rfl (be rfl))
   (aC (eu (lr a9 cK cJ ju (pv 2) (af (bS rfl T.Lu) ay)))
   (aJ (eu (lr a9 dH dG kZ (pv 2) (af (bF (sj T) hr.mono rfl T.gG.g T.gG.F.kp T.gG.b .nil bp (af (pv 3) ay)) ay))))))
   (aC (eu (lr a9 cK cJ ju (pv 2) (af (bS rfl T.Aq) ay)))
   (aJ (bj (pv 2)))))),?_⟩
  walk_at"";refine⟨i,rfl,hi,fun H1 q s1 hq YS=>?_⟩;walk_at"";refine⟨_,rfl,⟨_,bW.of (s1 _ _ hb)⟩,?_⟩;refine qZ (xs:=pl.map nV) (fun j σ H'=>∃v3:Option V,σ=[some (.int (i:Int)),some (.ref b),some (.ref q),v3]/\a7 H H'/\H' q=some (.lst ((gp i++ma (pl.take j)).map nV)))
   ⟨none,rfl,s1,by rw[YS];simp[ma]⟩ (fun j σ H' _ ⟨_,_,s2,_⟩=>s2.seq (bW.of hb)) ?_ ?_
  ·rintro j y σ H' hy ⟨v3,rfl,s2,uH⟩;obtain⟨p,hp,rfl⟩:=get_map hy;have abx:=hk p (bC hp);have dp:=Ma.ve abx;have Qk:j<pl.length:=(aw.mp hp).1;have sl:=uT (pl:=pl.take j) fun z hz=>hk z (p6 hz)
   rw[bt]at sl;walk_at"";refine⟨.inl ⟨rfl,_,bW.of uH⟩,?_⟩;walk_at"";refine xx uH (zg (by rw[ae,ai];omega)) ?_;have s3:=a7.put (o:=.lst ((gp i++ma (pl.take j)).map nV++[V.int 32])) hq s2;have vT:upd H' q (.lst ((gp i++ma (pl.take j)).map nV++[V.int 32])) q=_:=ak;generalize upd H' q (.lst ((gp i++ma (pl.take j)).map nV++[V.int 32]))=H3 at s3 vT⊢;walk_at"";refine⟨.inl ⟨rfl,_,bW.of vT⟩,?_⟩;walk_at"";refine⟨p,rfl,abx,fun H4 q4 s4 NA yR=>?_⟩;walk_at"";refine Bp (s4 _ _ vT) yR (YO ?_) ?_
   ·rw[ai,ae,ai,ae];show _+_+1+_<=_;omega
   ·refine⟨_,rfl,a7.put hq (s3.trans s4),?_⟩;have e:(gp i++ma (pl.take j++[p])).map nV=((gp i++ma (pl.take j)).map nV++[V.int 32])++(gp p).map nV:=by
     rw[Mu,<-dF,aF,dF];rfl
    rw[take_snoc hp,e];exact ak
  ·rintro σ H' ⟨v3,rfl,s2,uH⟩;rw[ae,bJ]at uH;have sl:=uT hk;walk_at"";refine⟨.inl ⟨rfl,_,bW.of uH⟩,?_⟩;walk_at"";refine xx uH (zg (by rw[ae,ai];omega)) ?_;walk_at"";refine k _ q (a7.put hq s2) hq ?_;have e:(jz (i,pl)).map nV=(gp i++ma pl).map nV++[V.int 10]:=by
    unfold jz;rw[<-dF,aF];rfl
   rw[e];exact ak
theorem MO(ms:NL)(m:Nat×List Nat):pD (ms++[m])=pD ms++jz m:=by unfold pD;rw[gC];simp
def ab5(K:aq):Sp:=fun vs H Q _=>E3 fun(a:Addr) (as:List Addr) (ms:NL)=>A6 (vs=[.ref a]) (H a=some (.lst (as.map V.ref))) (kj H as ms) (ms.length<=1000) (∀m∈ms,m.1<8/\1<=m.2.length/\m.2.length<=3/\∀k∈m.2,k<20) (∀H' q,a7 H H'->H q=none->H' q=some (.lst ((pD ms).map nV))->Q (.ref q) H')
theorem DE{α β:Type}{F:α->β->Prop}{a:List α}{b:List β}(h:Paired F a b):∀ {i:Nat} {x:α},a[i]? =some x->∃y,b[i]? =some y/\F x y:=by
 induction h with
 |nil=>intro i y e;simp at e
 |cons r _ ih=>
  intro i y e;cases i with
  |zero=>exact⟨_,rfl,by rw[<-ax e];exact r⟩
  |succ i=>exact ih e
theorem Bc(T:Txt K mg ad):cF P w K mg base iC 3 ad.uo ad.uu ["picks"] (ab5 K):=by
 refine T.kT.F.ok ke (by rintro _ _ _ _ ⟨a,as,ms,rfl,_⟩;rfl) (fun _ A _ s H vs Q E hr h=>?_)
 ·obtain⟨a,as,ms,rfl,ha,pa,hl,hb,k⟩:=h;refine⟨_,(aC (cf (i:=1) ke.nd rfl (be rfl) (fg ay))
   (aC (jP ck rfl (hJ (pv 0)) (tI rfl (fR (cv (i:=2) ke.nd rfl (be rfl)) (fR (cv (i:=3) ke.nd rfl (be rfl)) oT)))
   (aJ (eu (lr a9 dH dG kZ (pv 1) (af (bF (Ex T) hr.mono rfl T.mK.g T.mK.F.kp T.mK.b .nil bp (af (pv 2) (af (pv 3) ay))) ay)))))
   (aJ (bj (pv 1))))),?_⟩
  walk_at"";refine⟨by decide,fun q hq=>?_⟩;have s0:=aP (.lst []) hq;walk_at"";refine⟨_,rfl,⟨_,bW.of (s0 _ _ ha)⟩,?_⟩;refine qZ (xs:=as.map V.ref) (fun j σ H'=>∃v2 v3:Option V,σ=[some (.ref a),some (.ref q),v2,v3]/\a7 H H'/\H' q=some (.lst ((pD (ms.take j)).map nV)))
   ⟨none,none,rfl,s0,ak⟩ (fun j σ H' _ ⟨_,_,_,s2,_⟩=>s2.seq (bW.of ha)) ?_ ?_
  ·rintro j y σ H' hy ⟨v2,v3,rfl,s2,uH⟩;obtain⟨t,ht,rfl⟩:=get_map hy;obtain⟨m,hm,b,e1,e2⟩:=DE pa ht;have bm:=hb m (bC hm);have Qk:j<ms.length:=(aw.mp hm).1;have rl:=Ma.zT (ms.take j) fun z hz=>hb z (p6 hz)
   rw[bt]at rl;refine zj (wa.of (s2 _ _ e1)) rfl ?_;walk_at"";refine⟨.inl ⟨rfl,_,bW.of uH⟩,?_⟩;walk_at"";refine⟨m.1,b,m.2,rfl,s2 _ _ e2,by omega,by omega,fun k hk=>by have:=bm.2.2.2 k hk;omega,fun H3 q3 s3 vT vS=>?_⟩;have sm:(jz m).length<=20:=by
    have h1:=Ma.ve (n:=m.1) (by omega);have h2:=uT (pl:=m.2) fun k hk=>by have:=bm.2.2.2 k hk;omega
    unfold jz;rw[ai,ai];have:(m.2.flatMap fun k=>32::gp k).length=(ma m.2).length:=rfl;simp only[az,kn];omega
   walk_at"";refine Bp (s3 _ _ uH) vS (YO ?_) ?_
   ·rw[ae,ae];show _+(jz m).length<=_;omega
   ·refine⟨_,_,rfl,a7.put hq (s2.trans s3),?_⟩;rw[take_snoc hm,MO,aF];exact ak
  ·rintro σ H' ⟨v2,v3,rfl,s2,uH⟩;have el:as.length=ms.length:=Paired.len pa;rw[ae,el,bJ]at uH;walk_at"";exact k H' q s2 hq uH
theorem T6(T:Txt K mg ad):cF P w K mg base iC 6 ad.Bw ad.N2 ["line","call"] (jM ad 13):=by
 refine T.FH.F.ok TK (by rintro _ _ _ _ ⟨l,x,dc,na,ra,F,s,a,r,c,d,g,m,rfl,_⟩;rfl) (fun _ A _ s H vs Q E hr h=>?_)
 ·obtain⟨l,x,dc,na,ra,F,st,a,ns,c,d,g,m,rfl,ci,rf,k⟩:=h;have ha:a=[]:=fD ci.f.len;subst ha;cases (show some Vbdcaq.Call.record=some d from ci.hd);have sx:=ci.sx;obtain⟨dl,hl⟩:=sx.line;obtain⟨dd,su,qz,_⟩:=sx.rep.gk;obtain⟨as,K1,pa⟩:=sx.rep.picks;rw[sx.pc]at pa;have dB:aU st .record=(st,0::Vbdcaq.ints (pD st.moves)):=rfl;obtain⟨b1,b2⟩:=ci.ok.xi;refine⟨_,(aJ (bj (bF (Bc T) hr.mono rfl T.kT.g T.kT.F.kp T.kT.b .nil bp (af (aQ (aQ (pv 0) rfl) rfl) ay)))),?_⟩;walk_at"";refine⟨_,_,dl,_,_,rfl,hl,T.e8,T.bP,rfl,?_⟩;refine⟨_,_,dd,_,_,rfl,qz,T.a6,T.je,rfl,?_⟩;walk_at"";refine⟨_,as,st.moves,rfl,K1,pa.same sx.rep.zs,by omega,b2,fun H' q sm _ hq=>ci.tells k dB sm ?_⟩;rw[hq];unfold Vbdcaq.ints;rw[cO];rfl
theorem Z3{α:Type}(f:α->Nat)(d:α)(hd:f d=0)(l:List α){i j:Nat}(hi:i<l.length)(hj:j<l.length)(h:i≠j):f (l.getD i d)+f (l.getD j d)<=(l.map f).sum:=by
 have a:=Ma.sum_set f d d l i hi;have b:=Ma.tO f d (l.set i d) j (by rw[dD];exact hj);rw[Ma.cw h]at b;omega
theorem TX{t:Table}{m:DM}(a:nR t m)(h:Ma.Str t){i:Nat}(hi:i<t.setup.seats){p:bA}{r:List bA}(hq:bc t i=p::r):∀j,j<m.n->∀x∈(kW m i r).queues j,x.origin≠p.origin:=by
 intro j hj x hx e;rw[a.n]at hj;have ho:=h.OM p.origin;have vV:i<t.queues.length:=by rw[h.ql];exact hi
 have C0:j<t.queues.length:=by rw[h.ql];exact hj
 have q1:t.queues.getD i []=p::r:=hq;by_cases ej:j=i
 ·subst ej;rw[jq]at hx;have b:=Ma.tO (Ma.pf p.origin) [] t.queues j C0;rw[q1,Ma.oE,if_pos rfl]at b;have c:=Ma.pd hx;rw[e]at c;have:Ma.w6 p.origin t.queues=(t.queues.map (Ma.pf p.origin)).sum:=rfl;omega
 ·rw[m8 ej,a.queues]at hx;have b:=Z3 (Ma.pf p.origin) [] rfl t.queues vV C0 (fun q=>ej q.symm);rw[q1,Ma.oE,if_pos rfl]at b;have c:=Ma.pd hx;rw[e]at c;have d:Ma.pf p.origin (bc t j)=Ma.pf p.origin (t.queues.getD j []):=rfl;have:Ma.w6 p.origin t.queues=(t.queues.map (Ma.pf p.origin)).sum:=rfl;omega
theorem V9{t:Table}{m:DM}(a:nR t m)(h:Ma.fw t){j:Nat}(hj:j<m.n):(m.queues j).length<=1000/\(m.first j).length<=1000/\(m.last j).length<=1000:=by
 rw[a.n]at hj;have hc:=Ma.gY h;have hl:=Jf (acU h) j;rw[a.first,a.last,a.queues];refine⟨?_,by omega,by omega⟩;have h1:=Ma.ue h.str hj;have h2:(bc t j).length<=((bc t j).map fun p=>p.cards.length).sum:=by
  have:∀l:List bA,(∀p∈l,p.cards≠ [])->l.length<=(l.map fun p=>p.cards.length).sum:=by
   intro l;induction l with
   |nil=>intro _;exact ao _
   |cons p l ih=>
    intro hp;rw[az,bo,eK];have:=ih fun q hq=>hp q (aA _ hq)
    have:=iF.mpr (hp p ah);omega
  exact this _ fun p hp=>(h.str.pk j p hp).1
 omega
structure LA(t:Table)(m:DM)(i:Nat)(p:bA)(r:List bA)(pl:List Nat):Prop where
 hi:i<m.n
 hq:m.queues i=p::r
 sm:∀j,j<m.n->(m.queues j).length<=1000/\(m.first j).length<=1000/\(m.last j).length<=1000
 c3:pl.length<=1000
 lt:∀k∈pl,k<p.cards.length
 Of:p.cards.length<=1000
 pool:(m.pools i).length<=100000
 fl:∀j,j<m.n->∀x∈(kW m i r).queues j,x.origin≠p.origin
 oi:yb (gN m i p r pl)=true->Av (gN m i p r pl) 0
 n8:m.n<=8
 s5:m.sorts.length<=5000
 rd:m.round<=50
 tab:Ma.fw (dP t i pl)
 abs:nR (dP t i pl) (lN (gN m i p r pl))
 pk:vW (lN (gN m i p r pl))
 set:(dP t i pl).setup=t.setup
theorem E8{t:Table}{m:DM}(a:nR t m)(h:Ma.fw t)(k:vW m)(ho:kP t=false){i:Nat}(hi:i<t.setup.seats){p:bA}{r:List bA}(hq:bc t i=p::r){pl:List Nat}(ok:Ma.iQ t p pl):LA t m i p r pl:=by
 have hp:p∈bc t i:=by rw[hq];exact ah
 have hc:=Ma.gY h;have vV:i<m.n:=by rw[a.n];exact hi
 have lU:m.queues i=p::r:=by rw[a.queues];exact hq
 have hfl:=TX a h.str hi hq;have due:=Ma.So h hp;have psz:=Ma.u5 h hi hp;have s20:Ma.size t<=20:=h.su.Ku.2;obtain⟨a1,a2⟩:=VO a h ho hi hq ok;have pk1:=Tp k vV lU pl hfl;have f1:=Ma.pb t i p r pl;have f2:=Ma.qg f1 i p pl;have s1:=Ma.wX h.str hi hq ok;have s2:=Ma.ug (i:=i) s1 f1 (by omega) (h.str.pk i p hp).2;have oi:yb (gN m i p r pl)=true->Av (gN m i p r pl) 0:=fun e=>RK a2 (by rw[f2.setup];exact h.su) (by rw[f2.sheets,f2.setup];exact h.sh) s2 (by rw[f2.cards];exact hc) pk1 e
 obtain⟨t1,t2⟩:=Ma.AM h ho hi hq ok;refine⟨vV,lU,fun j hj=>V9 a h hj,?_,ok.lt,by omega,?_,hfl,oi,?_,?_,?_,t1,a1,UM oi pk1,t2⟩
 ·rw[ok.len];omega
 ·rw[a.pools];have:=Ma.uZ h.str hi;omega
 ·rw[a.n];exact h.su.seats.2
 ·rw[a.sorts];omega
 ·rw[a.round];have:=h.rd;have:=h.su.rounds.2;omega
theorem w8(m:DM):∀k,(gO m k).picks=m.picks
 |0=>rfl
 |k+1=>by
  rw[mf];have e1:∀(m:DM) (k:Nat),(cP m k).picks=m.picks:=by
   intro m k;induction k with
   |zero=>rfl
   |succ k ih=>rw[fS];exact ih
  have e2:∀(m:DM) (i:Nat) (p:bA),(recv m i p).picks=m.picks:=fun m i p=>by unfold recv;split<;>rfl
  show(jr (gO m k) k).picks=m.picks;unfold jr;rw[e2];show(cP (gO m k) 4).picks=m.picks;rw[e1,w8 m k]
theorem FU(m:DM)(i:Nat)(p:bA)(r:List bA)(pl:List Nat):(lN (gN m i p r pl)).picks=m.picks++[(i,pl)]:=by
 have e0:(take1 m i p r pl).picks=m.picks++[(i,pl)]:=by
  show(rel m i r).picks++[(i,pl)]=_;rw[IP]
 have e2:∀(m:DM) (i:Nat) (p:bA),(recv m i p).picks=m.picks:=fun m i p=>by unfold recv;split<;>rfl
 have e1:(gN m i p r pl).picks=m.picks++[(i,pl)]:=by
  unfold gN;split
  ·exact e0
  ·rw[e2];exact e0
 unfold lN;split
 ·split
  ·exact e1
  ·rw[w8];exact e1
 ·exact e1
def ae5(s:iy):Table:={setup:=s,sheets:=gU s,queues:=aO s.seats [],pools:=aO s.seats [],looks:=aO s.seats []}
def Li(s:iy):DM:=LU s.seats s.recipe s.takes s.rounds s.kinds (gU s)
theorem RA{s:iy}(h:Ma.gT s):nR (ae5 s) (Li s):=by
 have l0:∀i,p5 (ae5 s) i=[]:=fun i=>Ma.pA _ i
 refine⟨rfl,rfl,rfl,rfl,rfl,rfl,?_,?_,rfl,rfl,fun i=>?_,fun i=>?_,fun i=>?_,fun i=>?_⟩
 ·show((gU s).map fun _=>0).length=4;rw[ae,Ma.jR]
 ·intro k hk;show((gU s).map fun _=>0).getD k 0=([0,0,0,0]:List Nat).getD k 0 %_;have e1:([0,0,0,0]:List Nat).getD k 0=0:=by
   match k,hk with
   |0,_=>rfl
   |1,_=>rfl
   |2,_=>rfl
   |3,_=>rfl
  rw[e1,Nat.zero_mod,Ma.getD_in (by rw[ae,Ma.jR];exact hk),jJ]
 ·exact(Ma.pA _ _).symm
 ·exact(Ma.pA _ _).symm
 ·rw[l0];rfl
 ·rw[l0];rfl
theorem WE(s:iy):vW (Li s):=⟨fun _ _ p hp=>(by cases hp),fun o p h=>(by cases h)⟩
theorem A0{s:iy}(h:Ma.gT s):Av (Li s) 0:=by
 refine RK (RA h) h rfl (Ma.tR h).str (bK _) (WE s) ?_;unfold yb;rw[bD];intro i _;rfl
theorem JK{s:iy}(h:Ma.gT s):Ma.fw (cD s)/\nR (cD s) (gO (Li s) s.seats)/\vW (gO (Li s) s.seats)/\(gO (Li s) s.seats).picks=[]:=
 ⟨(Ma.rq h).1,DH (RA h) (Ma.tR h),zY (A0 h) (WE s) _ (ao _),w8 _ _⟩
theorem FE{H H1:Hp}{sa:Addr}{ss:List Addr}{ls:List (List Nat)}(h:∀a∈sa::ss,H a=none)(L:fW H1 sa ss ls):fW (yN H H1) sa ss ls:=
 ⟨oO (h sa ah) L.lst,L.nd,L.len,fun j a l h1 h2=>oO (h a (aA _ (bC h1))) (L.item j a l h1 h2)⟩
def TC(ad:Ad):Sp:=fun vs H Q _=>vs=[]/\∀H' g,Rep ad g dmN H'->a7 H H'->(∀r,iG dmN r->H (g r)=none)->(∀b,g.z b≠none->H b=none)->Q (.ref (g .dr)) H'
theorem M4(T:Txt K mg ad):cF P w K mg base iC 7 ad.Hg ad.Hl [] (TC ad):=by
 refine T.uN.F.ok MC (fun vs H Q E h=>?_) (fun EL A outer s H vs Q E hr h=>?_)
 ·rw[h.1];rfl
 ·obtain⟨rfl,k⟩:=h;refine⟨_,(aJ (bj (lT T.iu.m (oV T) hr.mono rfl T.Bk T.iu.b .nil bp (af (lT T.mN.m (ze T) hr.mono rfl T.Nd T.mN.b .nil bp (af aS (af (fg ay) (af aS (af aS (af aS (af (fg ay) ay))))))) ay)))),?_⟩;walk_at"";refine⟨by decide,fun ra pW=>?_⟩;walk_at"";refine⟨by decide,fun ka hka=>?_⟩;have h1:upd (upd H ra (.lst [])) ka (.lst []) ra=some (.lst []):=bq hka ak;have h2:upd (upd H ra (.lst [])) ka (.lst []) ka=some (.lst []):=ak;have s1:a7 H (upd (upd H ra (.lst [])) ka (.lst [])):=(aP _ pW).trans (aP _ hka);have aiI:H ka=none:=(aP _ pW).free hka;generalize upd (upd H ra (.lst [])) ka (.lst [])=H1 at h1 h2 s1⊢;walk_at"";intro su ds Z9 hds j1;have aic:H su=none:=s1.free Z9;have up1:∀b o,H1 b=some o->upd (upd H1 ds (.own su)) su (.ins ad.jT ds []) b=some o:=fun b o e=>aX (aR e Z9) (bq hds e)
  refine⟨su,ds,ra,ka,0,0,0,0,{},rfl,ak,⟨[],up1 _ _ h2,rfl,fun j a kd hj=>(by simp at hj)⟩,by decide,rfl,by decide,by decide,fun c hc=>(by cases hc),fun H2 sa ss e2 b2 n2 L2=>⟨rfl,?_⟩⟩;have s2:a7 H1 H2:=fun b o e=>b2 _ _ (up1 _ _ e) (aR e Z9)
  have n2':∀a∈sa::ss,H a=none:=fun a ha=>by
   cases e:H a with
   |none=>rfl
   |some o=>have:=n2 a ha;rw[up1 _ _ (s1 _ _ e)]at this;cases this
  have S:lb ad (yN H H2) su dmN:=⟨ds,ra,ka,sa,ss,oO aic e2,oO pW (s2 _ _ h1),⟨[],oO aiI (s2 _ _ h2),rfl,fun j a kd hj=>(by simp at hj)⟩,FE n2' L2⟩;walk_at"";intro x dx hx hdx aiv;have IJ:=s1.trans s2;have hx0:H x=none:=IJ.free hx;have Mc:∀b o,H2 b=some o->upd (upd H2 dx (.own x)) x (.ins ad.dC dx []) b=some o:=fun b o e=>aX (aR e hx) (bq hdx e)
  refine⟨x,dx,su,yN H H2,0,0,0,[],[],[[],[],[],[]],rfl,ak,fun b o e=>Mc _ _ (qw H H2 b o e),?_,S,by decide,by decide,fun h=>absurd h (by decide),fun H3 g R e zs b3 hf zn=>⟨rfl,?_⟩⟩
  ·cases e:yN H H2 x with
   |none=>rfl
   |some o=>have:=qw H H2 x o e;rw[hx]at this;cases this
  have back:∀ {b},upd (upd H2 dx (.own x)) x (.ins ad.dC dx []) b=none->H b=none:=fun{b} hb=>by
   cases e:H b with
   |none=>rfl
   |some o=>rw[Mc _ _ (IJ _ _ e)]at hb;cases hb
  have e':V.ref x=V.ref (g .dr):=by rw[e]
  rw[e'];refine k H3 g R (fun b o eb=>b3 _ _ (Mc _ _ (IJ _ _ eb)) (aR eb hx0)) (fun r hr=>?_) fun b hb=>?_
  ·rcases hf r hr with q|q
   ·rw[q];exact hx0
   ·exact back q
  ·rcases zn b hb with q|q
   ·exact FD q
   ·exact back q
theorem KN(T:Txt K mg ad):cF P w K mg base iC 8 ad.xF ad.xU ["self"] (V4 ad (QJ ad)):=by
 refine T.wo.F.ok Kn (by rintro _ _ _ _ ⟨l,dx,rfl,_⟩;rfl) (fun _ A _ s H vs Q E hr h=>?_)
 ·obtain⟨l,dx,rfl,hl,k⟩:=h;refine⟨_,(aJ (eR (pv 0) (WL (M4 T) hr.mono rfl T.uN.g T.uN.F.kp T.uN.b .nil bp) rfl)),?_⟩;walk_at"";refine⟨rfl,fun H1 g R s1 hf hz=>?_⟩;walk_at"";refine⟨l,_,dx,_,rfl,s1 _ _ hl,T.e8,T.bP,by decide,?_⟩;have ol:Out g dmN l:=fun r hr e=>by have:=hf r hr;rw[e,hl]at this;cases this
  have zl:g.z l=none:=by
   cases e:g.z l with
   |none=>rfl
   |some o=>have:=hz l (by rw[e];simp);rw[hl]at this;cases this
  refine k _ _ ⟨g,dmN,⟨dx,ak⟩,R.keep (fun r hr o e=>aX (ol r hr) e) (fun b o e1 e2=>aX (fun q=>by rw[q,zl]at e1;cases e1) e2),⟨fun _ hj=>absurd hj (fc _),fun o p h=>(by cases h)⟩,rfl,ol,zl,rfl,.inl ⟨rfl,rfl⟩⟩ fun b o e hb=>⟨aX hb (s1 _ _ e),fun _=>?_⟩
  rintro(q|⟨r,hr,q⟩|q)
  ·exact hb q
  ·have:=hf r hr;rw[q,e]at this;cases this
  ·have:=hz b q;rw[e]at this;cases this
theorem Hw(s:dQ)(n a b c d q r x:Int)(l:List Int):aU s (.begin_ n a b c d q r x l)=if lA n a b c d q r x l=0 then({table:=cD (eD n a b c d q r x l)},[0,a+b+c+d])else(s,[lA n a b c d q r x l]):=by
 show bI s [(-1,!Ma.tS n a b c d q r x l),(-6,iT (eD n a b c d q r x l))] (fun _=>({table:=cD (eD n a b c d q r x l)},[0,a+b+c+d]))=_;unfold lA bI;cases h1:Ma.tS n a b c d q r x l with
 |false=>simp
 |true=>
  cases h2:iT (eD n a b c d q r x l)with
  |false=>simp
  |true=>simp
theorem Hj{a r:List Int}{c:List (List Int)}(f:Ma.Form c 0 a r):∃n a0 b c0 d q r0 x,a=[n,a0,b,c0,d,q,r0,x]:=by
 have:=f.len;match a,this with
 |[n,a0,b,c0,d,q,r0,x],_=>exact⟨n,a0,b,c0,d,q,r0,x,rfl⟩
theorem M7{ad:Ad}{s s':dQ}{H H5:Hp}{l:Addr}{F:Addr->Prop}{g g':Gh}{m m':DM}(X:Addr->Prop)(sx:yT ad s H l F g m){dl:Addr}(hl:H5 l=some (.ins ad.jy dl [("draft",.ref (g' .dr))]))(R:Rep ad g' m' H5)(pk:vW m')(pc:m'.picks=s'.moves)(tab:HA s' m')
  (hn:∀r,iG m' r->H (g' r)=none)(zn:∀b,g'.z b≠none->g.z b≠none\/H b=none)(kp:∀b o,H b=some o->b≠l->H5 b=some o):
  yT ad s' H5 l (foot g' m' l) g' m'/\Keeps X F H (foot g' m' l) H5:=by
 obtain⟨d0,hl0⟩:=sx.line;have lF:F l:=by rw[sx.ft];exact .inl rfl
 refine⟨⟨⟨dl,hl⟩,R,pk,pc,fun r hr e=>?_,?_,rfl,tab⟩,fun b o e hb=>?_⟩
 ·have:=hn r hr;rw[e,hl0]at this;cases this
 ·cases e:g'.z l with
  |none=>rfl
  |some o=>
   rcases zn l (by rw[e];simp)with h|h
   ·exact absurd sx.zl h
   ·rw[hl0]at h;cases h
 ·have bl:b≠l:=fun q=>hb (q▸lF)
  refine⟨kp b o e bl,fun _=>?_⟩;rintro(q|⟨r,hr,q⟩|q)
  ·exact bl q
  ·have:=hn r hr;rw[q,e]at this;cases this
  ·rcases zn b q with h|h
   ·exact hb (by rw[sx.ft];exact .inr (.inr h))
   ·rw[e]at h;cases h
theorem Keeps.same{X F F':Addr->Prop}{H H1 H2:Hp}(k:Keeps X F H F' H1)(s:a7 H1 H2):Keeps X F H F' H2:=fun b o e hb=>⟨s _ _ (k b o e hb).1,(k b o e hb).2⟩
theorem WX(T:Txt K mg ad):cF P w K mg base iC 7 ad.Fo ad.Sz ["line","call"] (jM ad 0):=by
 refine T.J3.F.ok AV (by rintro _ _ _ _ ⟨l,x,dc,na,ra,F,s,a,r,c,d,g,m,rfl,_⟩;rfl) (fun _ A _ s H vs Q E hr h=>?_)
 ·obtain⟨ln,cx,dc,na,ra,F,st,aa,l,cc,dd,g0,m0,rfl,ci,rf,k⟩:=h;obtain⟨n,a,b,c,d,q,r,x,rfl⟩:=Hj ci.f;cases (show some (LH n a b c d q r x l)=some dd from ci.hd);have dB:=Hw st n a b c d q r x l;have c0:lA n a b c d q r x l=0:=rf;rw[if_pos c0]at dB;have sx:=ci.sx;obtain⟨dl,hl⟩:=sx.line;have hx:=ci.hx;have rL:=ci.rL;have pW:=ci.pW;have hb:Ma.tS n a b c d q r x l=true/\iT (eD n a b c d q r x l)=false:=by
   unfold lA at c0;split at c0
   ·rename_i e1;split at c0
    ·cases c0
    ·rename_i e2;exact⟨e1,by cases e:iT (eD n a b c d q r x l);rfl;exact absurd e e2⟩
   ·cases c0
  have xu:=Ma.As.mp hb.1;have su:=Ma.Mw xu hb.2;have g1:=xu.hn;have g2:=xu.ha;have g3:=xu.hb;have g4:=xu.hc;have g5:=xu.hd;have g6:=xu.hq;have g7:=xu.hr;have g8:=xu.hx;have g9:=xu.hs;generalize hS:eD n a b c d q r x l=S at*;have eS:S.seats=n.toNat/\S.recipe=[a.toNat,b.toNat,c.toNat,d.toNat]/\S.takes=q.toNat/\S.rounds=r.toNat/\S.seed=x.toNat/\S.kinds=yK l:=by rw[<-hS];exact⟨rfl,rfl,rfl,rfl,rfl,rfl⟩
  refine⟨_,(aC (cf (i:=2) AV.nd rfl (be rfl) (aQ (pv 1) rfl))
   (aC (cf (i:=3) AV.nd rfl (be rfl) (qQ uR (pv 2) (iS aS) (iS aS)))
   (aC (cf (i:=4) AV.nd rfl (be rfl) (lT T.mN.m (ze T) hr.mono rfl T.Nd T.mN.b .nil bp (af (eB cj (pv 2) aS (fun _ _=>rfl)) (af (pv 3) (af (eB cj (pv 2) aS (fun _ _=>rfl)) (af (eB cj (pv 2) aS (fun _ _=>rfl)) (af (eB cj (pv 2) aS (fun _ _=>rfl)) (af (bF (Ia T) hr.mono rfl T.p8.g T.p8.F.kp T.p8.b .nil bp (af (aQ (pv 1) rfl) ay)) ay))))))))
   (aC (eR (pv 0) (lT T.iu.m (oV T) hr.mono rfl T.Bk T.iu.b .nil bp (af (pv 4) ay)) rfl)
   (aJ (bj (fg (af (bH (Yg rfl) (by rfl) T.agu HG (af (pv 3) ay)) ay)))))))),?_⟩
  walk_at"";refine⟨_,_,dc,_,_,rfl,hx,T.dW,T.cX,rfl,?_⟩;walk_at"";refine⟨na,_,rfl,bW.of rL,fun p hp=>?_⟩;have agj:([a,b,c,d]:List Int).map V.int=S.recipe.map nV:=by
   rw[eS.2.1];show [V.int a,V.int b,V.int c,V.int d]=[nV a.toNat,nV b.toNat,nV c.toNat,nV d.toNat];have e1:V.int a=nV a.toNat:=congrArg V.int (by omega);have e2:V.int b=nV b.toNat:=congrArg V.int (by omega);have e3:V.int c=nV c.toNat:=congrArg V.int (by omega);have e4:V.int d=nV d.toNat:=congrArg V.int (by omega);rw[e1,e2,e3,e4]
  have ep:qt ([n,a,b,c,d,q,r,x].map V.int) (some 1) (some 5)=S.recipe.map nV:=agj;rw[ep];have hpv:upd H p (.lst (S.recipe.map nV)) p=some (.lst (S.recipe.map nV)):=ak;have s2:a7 H (upd H p (.lst (S.recipe.map nV))):=aP _ hp;generalize upd H p (.lst (S.recipe.map nV))=H2 at hpv s2⊢;walk_at"";refine eO (bW.of (s2 _ _ rL)) rfl ?_;walk_at"";refine eO (bW.of (s2 _ _ rL)) rfl ?_;walk_at"";refine eO (bW.of (s2 _ _ rL)) rfl ?_;walk_at"";refine eO (bW.of (s2 _ _ rL)) rfl ?_;walk_at"";refine⟨_,_,dc,_,_,rfl,s2 _ _ hx,T.dW,T.gI,rfl,?_⟩;walk_at"";refine⟨ra,l,rfl,bW.of (s2 _ _ pW),xu.hk,xu.hl.2,fun H3 so s3 Ie sAt=>?_⟩;rw[<-eS.2.2.2.2.2]at sAt;walk_at"";intro U DU hU hDU amI;have kb:∀kd∈S.kinds,kd.copies<=20:=fun kd h=>(su.kb kd h).2.2.2
  have up1:a7 H3 (upd (upd H3 DU (.own U)) U (.ins ad.jT DU [])):=fun b o e=>aX (aR e hU) (bq hDU e)
  refine⟨U,DU,p,so,n,q,r,x,S,rfl,ak,(sAt.same (qw _ _)).same up1,g8.1,eS.2.2.2.2.1.symm,by omega,su.kinds.2,kb,fun H4 sa ss e4 b4 n4 L4=>⟨rfl,?_⟩⟩;have s4:a7 H3 H4:=fun b o e=>b4 _ _ (up1 _ _ e) (aR e hU)
  have sH4:a7 H H4:=(s2.trans s3).trans s4;have hU0:H U=none:=(s2.trans s3).free hU;have e1:n=((S.seats:Nat):Int):=by rw[eS.1];omega
  have e2:q=((S.takes:Nat):Int):=by rw[eS.2.2.1];omega
  have e3:r=((S.rounds:Nat):Int):=by rw[eS.2.2.2.1];omega
  have n4':∀y∈sa::ss,H y=none:=fun y hy=>(s2.trans s3).free (up1.free (n4 y hy))
  have zz:a7 (yN H2 H3) (yN H H4):=fun b o e=>oO (s2.free (FD (by rw[e];simp))) (s4 _ _ (qw _ _ _ _ e))
  have SA:lb ad (yN H H4) U (Li S):=by
   refine⟨DU,p,so,sa,ss,oO hU0 ?_,oO hp (s4 _ _ (s3 _ _ hpv)),sAt.same zz,FE n4' L4⟩;rw[e4];unfold suV suF;rw[e1,e2,e3];rfl
  walk_at"";intro X DX hX hDX afE;have hX0:H X=none:=sH4.free hX;have Mc:a7 H4 (upd (upd H4 DX (.own X)) X (.ins ad.dC DX [])):=fun b o e=>aX (aR e hX) (bq hDX e)
  refine⟨X,DX,U,yN H H4,S.seats,S.takes,S.rounds,S.recipe,S.kinds,gU S,rfl,ak,(qw H H4).trans Mc,?_,SA,su.seats.2,by rw[Ma.jR];decide,fun _=>A0 su,fun H5 g R5 eX zs b5 hf zn=>⟨rfl,?_⟩⟩
  ·cases e:yN H H4 X with
   |none=>rfl
   |some o=>have:=qw H H4 X o e;rw[hX]at this;cases this
  have s5:a7 H H5:=fun y o e=>b5 _ _ (Mc _ _ (sH4 _ _ e)) (aR e hX0)
  have s45:a7 H4 H5:=fun y o e=>b5 _ _ (Mc _ _ e) (aR e hX)
  walk_at"";refine⟨ln,_,dl,_,rfl,s5 _ _ hl,T.e8,T.bP,(by show 1<1000;decide),?_⟩;have ef:pL "draft" (V.ref X) [("draft",V.ref (g0 .dr))]=([("draft",V.ref X)]:List (Str×V)):=rfl;rw[ef];have Xp:∀rr,iG (gO (Li S) S.seats) rr->H (g rr)=none:=fun rr Ny=>by
   rcases hf rr Ny with h|h
   ·rw[h];exact hX0
   ·exact sH4.free (Mc.free h)
  have hzz:∀b,g.z b≠none->H b=none:=fun b hb=>by
   rcases zn b hb with h|h
   ·exact FD h
   ·exact sH4.free (Mc.free h)
  have ol:Out g (gO (Li S) S.seats) ln:=fun rr Ny e=>by have:=Xp rr Ny;rw[e,hl]at this;cases this
  have zl:g.z ln=none:=by
   cases e:g.z ln with
   |none=>rfl
   |some o=>have:=hzz ln (by rw[e];simp);rw[hl]at this;cases this
  have R6:Rep ad g (gO (Li S) S.seats) (upd H5 ln (.ins ad.jy dl [("draft",V.ref X)])):=R5.keep (fun rr Ny o e=>aX (ol rr Ny) e) (fun b o e1 e2=>aX (fun q=>by rw[q,zl]at e1;cases e1) e2);have l6:upd H5 ln (.ins ad.jy dl [("draft",V.ref X)]) ln=some (.ins ad.jy dl [("draft",V.ref X)]):=ak;have k6:∀y o,H y=some o->y≠ln->upd H5 ln (.ins ad.jy dl [("draft",V.ref X)]) y=some o:=fun y o e hy=>aX hy (s5 _ _ e)
  have hp6:upd H5 ln (.ins ad.jy dl [("draft",V.ref X)]) p=some (.lst (S.recipe.map nV)):=aX (fun e=>by rw[e,hl]at hp;cases hp) (s45 _ _ (s4 _ _ (s3 _ _ hpv)));generalize upd H5 ln (.ins ad.jy dl [("draft",V.ref X)])=H6 at R6 l6 k6 hp6⊢;obtain⟨tk,ab,pk,pc⟩:=JK su;rw[<-eX]at l6;obtain⟨S6,K6⟩:=M7 (s':={table:=cD S}) (fun b=>b=ra) sx l6 R6 pk pc (.inr ⟨tk,ab⟩) Xp (fun b hb=>.inr (hzz b hb)) k6;have es:([a,b,c,d]:List Int).sum=a+b+c+d:=by simp[eK];omega
  walk_at"";refine⟨p,[a,b,c,d],rfl,bW.of (by rw[agj];exact hp6),?_⟩;rw[es];walk_at"";refine⟨by show 1<=sizeLine;decide,fun Z hZ=>?_⟩;have sZ:=aP (.lst [V.int (a+b+c+d)]) hZ;refine k _ _ Z [a+b+c+d] ?_ (K6.same sZ) (by rw[dB]) ak;rw[dB];exact⟨g,_,S6.same sZ⟩
theorem DI{l:List Int}(h:∀z∈l,0<=z):(l.map cz).Nodup↔l.Nodup:=by
 unfold wg;rw[ip];constructor
 ·intro p;exact p.imp fun h e=>h (by rw[e])
 ·intro p;refine gE ?_ p;intro a b ha hb j1 e;have:=h a ha;have:=h b hb;exact j1 (by omega)
theorem NO{t:Table}{m:DM}(a:nR t m){p:bA}{l:List Int}(h:∀z∈l,0<=z):Br m p l=true↔Ma.iQ t p (l.map cz):=by
 unfold Br;rw[aE,aE,decide_eq_true_iff,decide_eq_true_iff,bD];constructor
 ·rintro⟨h1,h2,h3⟩;refine⟨?_,(DI h).mpr h2,fun k hk=>?_⟩
  ·rw[ae,h1,a.takes];rfl
  ·obtain⟨z,hz,rfl⟩:=bh.mp hk;have:=of_decide_eq_true (h3 z hz);have:=h z hz;omega
 ·rintro⟨h1,h2,h3⟩;refine⟨?_,(DI h).mp h2,fun z hz=>decide_eq_true ?_⟩
  ·rw[ae]at h1;rw[h1,a.takes];rfl
  ·have:=h3 z.toNat (bh.mpr ⟨z,hz,rfl⟩);have:=h z hz;omega
theorem IX{t:Table}(h:Ma.Str t){i:Nat}(hi:i<t.setup.seats){p:bA}{r:List bA}(hq:bc t i=p::r)(pl:List Nat):(cA (dP t i pl) i).drop (cA t i).length=Ma.got p.cards pl:=by
 unfold cA;rw[Ma.Dn hq,Ma.cy (by rw[h.pl];exact hi)];exact JV
theorem Lj{s:dQ}{m:DM}(a:nR s.table m)(h:Ma.fw s.table){i:Nat}(hi:i<s.table.setup.seats)(pl:List Nat):
  (m.round=m.rounds->gP s i pl=(s,[-3]))/\(m.round≠m.rounds->m.queues i=[]->gP s i pl=(s,[-4]))/\
  (m.round≠m.rounds->∀p r,m.queues i=p::r->(¬Ma.iQ s.table p pl->gP s i pl=(s,[-5]))/\(Ma.iQ s.table p pl->gP s i pl=({table:=dP s.table i pl,moves:=s.moves++[(i,pl)]},0::cM (dP s.table i pl) (Ma.got p.cards pl)))):=by
 have ov:=yz a h;unfold gP jg;refine⟨fun e=>?_,fun e q=>?_,fun e p r q=>⟨fun n=>?_,fun y=>?_⟩⟩
 ·rw[ov,decide_eq_true e,if_pos rfl]
 ·rw[ov,decide_eq_false e,if_neg (by decide),<-a.queues,q]
 ·rw[ov,decide_eq_false e,if_neg (by decide),<-a.queues,q];have:Yw s.table p pl=false:=by
   cases z:Yw s.table p pl with
   |false=>rfl
   |true=>exact absurd (Ma.qf.mp z) n
  dsimp only;rw[this,if_pos rfl]
 ·have hq:bc s.table i=p::r:=by rw[<-a.queues];exact q
  rw[ov,decide_eq_false e,if_neg (by decide),hq];dsimp only;rw[Ma.qf.mpr y,if_neg (by decide)];dsimp only;rw[IX h.str hi hq]
theorem CB{s:dQ}{m:DM}(tab:HA s m)(i:Int)(l:List Int):
  (kg m i l≠0->aU s (.pick i l)=(s,[kg m i l]))/\
  (kg m i l=0->∃p r,0<=i/\i.toNat<m.n/\m.queues i.toNat=p::r/\m.round≠m.rounds/\(∀z∈l,0<=z)/\l.length<=3/\Ma.iQ s.table p (l.map cz)/\
   aU s (.pick i l)=({table:=dP s.table i.toNat (l.map cz),moves:=s.moves++[(i.toNat,l.map cz)]},0::cM (dP s.table i.toNat (l.map cz)) (Ma.got p.cards (l.map cz)))):=by
 have hn:=tZ tab;have Nw:aU s (.pick i l)=bI s [(-1,!(bf i 0 7&&(decide (l.length<=3)&&l.all fun k=>bf k 0 19))),iH s i] (fun _=>gP s i.toNat (l.map cz)):=rfl;rw[Nw];unfold kg;by_cases cl:l.length<=3/\l.all (wi 0 19)=true
 ·rw[if_pos cl];have cl2:(l.all fun k=>bf k 0 19)=true:=cl.2;have hg:bI s [(-1,!(bf i 0 7&&(decide (l.length<=3)&&l.all fun k=>bf k 0 19))),iH s i] (fun _=>gP s i.toNat (l.map cz))=if cS m.n i=0 then gP s i.toNat (l.map cz)else(s,[cS m.n i]):=by
   rw[decide_eq_true cl.1,cl2,eM,eM];exact jc (k:=fun _=>gP s i.toNat (l.map cz)) hn
  rw[hg];have nn:∀z∈l,0<=z:=fun z hz=>(Ma.gj.mp (bD.mp cl.2 z hz)).1
  by_cases c0:cS m.n i=0
  ·rw[if_pos c0];obtain⟨h0,hi,_⟩:=oy c0;obtain⟨tok,ab⟩:=mU tab (by omega);have vV:i.toNat<s.table.setup.seats:=by rw[<-hn];exact hi
   obtain⟨d1,d2,d3⟩:=Lj ab tok vV (l.map cz);have hl:fH m i=if m.round=m.rounds then-3 else if m.queues i.toNat=[]then-4 else 0:=by
    unfold fH jN;by_cases e1:m.round=m.rounds
    ·rw[if_pos ⟨c0,e1⟩,if_pos e1]
    ·rw[if_neg (fun h=>e1 h.2),if_neg e1];by_cases e2:m.queues i.toNat=[]
     ·rw[if_pos ⟨c0,e2⟩,if_pos e2]
     ·rw[if_neg (fun h=>e2 h.2),if_neg e2,c0]
   by_cases e1:m.round=m.rounds
   ·rw[if_pos e1]at hl;rw[hl,if_neg (fun h=>by cases h.1)];exact⟨fun _=>d1 e1,fun h=>by cases h⟩
   ·rw[if_neg e1]at hl;cases hq:m.queues i.toNat with
    |nil=>
     rw[hq,if_pos rfl]at hl;rw[hl,if_neg (fun h=>by cases h.1)];exact⟨fun _=>d2 e1 hq,fun h=>by cases h⟩
    |cons p r=>
     rw[hq,if_neg (by intro h;cases h)]at hl;rw[hl];obtain⟨d4,d5⟩:=d3 e1 p r hq;have ef:XS m l (p::r)=Br m p l:=rfl;rw[ef];cases fb:Br m p l with
     |false=>
      rw[if_pos ⟨rfl,rfl⟩];refine⟨fun _=>d4 fun ok=>?_,fun h=>by cases h⟩;rw[(NO ab nn).mpr ok]at fb;cases fb
     |true=>
      rw[if_neg (fun h=>by cases h.2)];have ok:=(NO ab nn).mp fb;exact⟨fun h=>absurd rfl h,fun _=>⟨p,r,h0,hi,rfl,e1,nn,cl.1,ok,d5 ok⟩⟩
  ·rw[if_neg c0];have hl:fH m i=cS m.n i:=by unfold fH jN;rw[if_neg (fun h=>c0 h.1),if_neg (fun h=>c0 h.1)]
   rw[hl,if_neg (fun h=>c0 h.1)];exact⟨fun _=>rfl,fun h=>absurd h c0⟩
 ·rw[if_neg cl];refine⟨fun _=>?_,fun h=>by cases h⟩;have e:(bf i 0 7&&(decide (l.length<=3)&&l.all fun k=>bf k 0 19))=false:=by
   cases z:(bf i 0 7&&(decide (l.length<=3)&&l.all fun k=>bf k 0 19))with
   |false=>rfl
   |true=>
    rw[aE,aE]at z;exact absurd ⟨of_decide_eq_true z.2.1,z.2.2⟩ cl
  unfold bI;rw[e];rfl
theorem Mf{ad:Ad}{s:dQ}{H H1 H':Hp}{l a:Addr}{F:Addr->Prop}{g g1 g':Gh}{m:DM}{i:Nat}{p:bA}{r:List bA}{pl:List Nat}(sx:yT ad s H l F g m)(tk:LA s.table m i p r pl)(s1:a7 H H1)(e1:g1.to=g.to)(z1:∀b,g1.z b≠none->g.z b≠none\/b=a\/H b=none)(zl1:g1.z l=none)
  (R:Rep ad g' (lN (gN m i p r pl)) H')(f:Fr g1 m H1 g' (lN (gN m i p r pl)) H')(ed:g' .dr=g .dr):
  yT ad {table:=dP s.table i pl,moves:=s.moves++[(i,pl)]} H' l (foot g' (lN (gN m i p r pl)) l) g' (lN (gN m i p r pl))/\Keeps (fun b=>b=a) F H (foot g' (lN (gN m i p r pl)) l) H':=by
 obtain⟨dl,hl⟩:=sx.line;have oe:∀ {b},Out g m b->Out g1 m b:=fun{b} h r hr q=>h r hr (by rw[<-e1];exact q)
 refine⟨⟨⟨dl,?_⟩,R,tk.pk,?_,f.outs (s1 _ _ hl) (oe sx.out),?_,rfl,.inr ⟨tk.tab,tk.abs⟩⟩,fun b o e nb=>?_⟩
 ·rw[ed];exact f.out _ _ (s1 _ _ hl) (oe sx.out)
 ·rw[FU,sx.pc]
 ·cases e:g'.z l with
  |none=>rfl
  |some o=>
   rcases f.zn l (by rw[e];simp)with h|h
   ·exact absurd zl1 h
   ·rw[s1 _ _ hl]at h;cases h
 ·rw[sx.ft]at nb;have ob:Out g m b:=fun rr Ny q=>nb (.inr (.inl ⟨rr,Ny,q⟩))
  refine⟨f.out _ _ (s1 _ _ e) (oe ob),fun nba=>?_⟩;rintro(q|⟨rr,Ny,q⟩|q)
  ·exact nb (.inl q)
  ·exact f.outs (s1 _ _ e) (oe ob) rr Ny q
  ·rcases f.zn b q with h|h
   ·rcases z1 b h with h|h|h
    ·exact nb (.inr (.inr h))
    ·exact nba h
    ·rw[e]at h;cases h
   ·rw[s1 _ _ e]at h;cases h
theorem XD{t:Table}{m:DM}{i:Nat}{p:bA}{r:List bA}{pl:List Nat}(a:nR t m)(h:Ma.fw t)(tk:LA t m i p r pl):(∀c∈Ma.got p.cards pl,1<=c/\c<=(lN (gN m i p r pl)).sorts.length)/\(Ma.got p.cards pl).length<=1000:=by
 have hi:i<t.setup.seats:=by rw[<-a.n];exact tk.hi
 have hq:bc t i=p::r:=by rw[<-a.queues];exact tk.hq
 refine⟨fun c hc=>?_,?_⟩
 ·rw[<-IX h.str hi hq pl]at hc;have:=Ln tk.tab (i:=i) (by rw[tk.set];exact hi) c (zH hc);rw[tk.abs.sorts];exact this
 ·have:=tk.c3;unfold Ma.got;rw[ae];exact this
theorem OW{g:Gh}{a b:Addr}{o:HO}(h:(kr g a o).z b≠none):g.z b≠none\/b=a:=by
 by_cases e:b=a
 ·exact .inr e
 ·exact .inl (by rw[show(kr g a o).z b=g.z b from cq e]at h;exact h)
theorem ZN(T:Txt K mg ad):cF P w K mg base iC 8 ad.Lb ad.X6 ["line","call"] (jM ad 1):=by
 refine T.OY.F.ok Zt (by rintro _ _ _ _ ⟨l,x,dc,na,ra,F,s,a,r,c,d,g,m,rfl,_⟩;rfl) (fun _ A _ s H vs Q E hr h=>?_)
 ·obtain⟨l,x,dc,na,ra,F,st,a,ns,c,d,g,m,rfl,ci,rf,k⟩:=h;obtain⟨i,rfl⟩:=fj ci.f rfl;cases (show some (Oz i ns)=some d from ci.hd);have sx:=ci.sx;obtain⟨dl,hl⟩:=sx.line;obtain⟨dd,su,qz,_⟩:=sx.rep.gk;obtain⟨_,_,nFr⟩:=ci.nF;obtain⟨G5,hs2⟩:=CB sx.tab i ns;obtain⟨p,r,h0,hi,hq,LQ,nn,l3,ok,dB⟩:=hs2 rf;obtain⟨tok,ab⟩:=mU sx.tab (by omega);have hov:kP st.table=false:=by rw[yz ab tok,decide_eq_false LQ]
  have tk:=E8 ab tok sx.pk hov (by rw[<-ab.n];exact hi) (by rw[<-ab.queues];exact hq) ok;have ei:i=((i.toNat:Nat):Int):=by omega
  have xu:ns.map V.int=(ns.map cz).map nV:=W6 nn;have pW:=ci.pW;rw[xu]at pW;generalize ns.map cz=pl at*;have ora:Out g m ra:=fun rr Ny q=>nFr (by rw[sx.ft];exact .inr (.inl ⟨rr,Ny,q⟩))
  obtain⟨zs,R1⟩:=sx.rep.freeze pW ora;have hml:m.picks.length<=1000:=by rw[sx.pc];have:=ci.ok.xi.1;omega
  have nlr:l≠ra:=fun e=>by rw[e,pW]at hl;cases hl
  refine⟨_,(aJ (bj (gg (aQ (pv 0) rfl) T.a6 T.bO.m (eN T) hr.mono T.bO.b .nil bp (af (gg (aQ (pv 0) rfl) T.a6 T.ir.m (oU T) hr.mono T.ir.b .nil bp (af (eB cj (aQ (pv 1) rfl) aS (fun _ _=>rfl)) (af (aQ (pv 1) rfl) ay))) ay)))),?_⟩;walk_at"";refine⟨_,_,dl,_,_,rfl,hl,T.e8,T.bP,rfl,?_⟩;refine⟨_,dd,_,rfl,qz,rfl,?_⟩;walk_at"";refine⟨_,_,dl,_,_,rfl,hl,T.e8,T.bP,rfl,?_⟩;refine⟨_,dd,_,rfl,qz,rfl,?_⟩;walk_at"";refine⟨_,_,dc,_,_,rfl,ci.hx,T.dW,T.cX,rfl,?_⟩;walk_at"";refine eO (bW.of ci.rL) (lX (ao _)) ?_;walk_at"";refine⟨_,_,dc,_,_,rfl,ci.hx,T.dW,T.gI,rfl,?_⟩;walk_at"";refine⟨kr g ra (.lst (pl.map nV)),m,i.toNat,p,r,ra,pl,by rw[<-ei];rfl,R1,sx.pk.rN,tk.hi,tk.hq,tk.sm,AG _ _ _,hml,tk.rd,tk.c3,tk.lt,tk.Of,tk.pool,tk.fl,tk.oi,tk.n8,tk.s5,fun H3 g3 q3 R3 F3 ed vT vS oq3=>?_⟩;obtain⟨sx3,kp3⟩:=Mf (a:=ra) (g1:=kr g ra (.lst (pl.map nV))) sx tk (a7.refl H) rfl (fun b h=>(OW h).imp_right .inl) (by rw[show(kr g ra (.lst (pl.map nV))).z l=g.z l from cq nlr];exact sx.zl) R3 F3 ed;obtain⟨gi,gl⟩:=XD ab tok tk;refine⟨g3,_,_,Ma.got p.cards pl,by rw[ed];rfl,R3,bW.of vS,by omega,gi,fun H4 q4 s4 NA yR=>?_⟩;rw[t6 tk.abs]at yR;refine k H4 _ q4 (cM (dP st.table i.toNat pl) (Ma.got p.cards pl)) ?_ (kp3.same s4) (by rw[dB]) yR;rw[dB];exact⟨g3,_,sx3.same s4⟩
theorem XH{ta:TA}{σ:L2.St}{H:Hp}{Q:VK}(k:ta σ H fun vs H1=>∃j:Int,vs=[.int j]/\∀p,H1 p=none->Q (.ref p) (upd H1 p (.YM 0 j))):Q6 ta σ H Q:=k
theorem Jl{s:dQ}{m:DM}(tab:HA s m)(i:Int):
  (fH m i<0->aU s (.late i)=(s,[fH m i]))/\(fH m i<0\/fH m i=0)/\
  (fH m i=0->∃p r,0<=i/\i.toNat<m.n/\m.queues i.toNat=p::r/\m.round≠m.rounds/\Ma.iQ s.table p (aG (min m.takes p.cards.length))/\
   aU s (.late i)=({table:=dP s.table i.toNat (aG (min m.takes p.cards.length)),moves:=s.moves++[(i.toNat,aG (min m.takes p.cards.length))]},0::cM (dP s.table i.toNat (aG (min m.takes p.cards.length))) (Ma.got p.cards (aG (min m.takes p.cards.length))))):=by
 have hn:=tZ tab;have Nw:aU s (.late i)=bI s [(-1,!bf i 0 7),iH s i] (fun _=>gP s i.toNat (match bc s.table i.toNat with|p::_=>aG (HM s.table p)|[]=>[])):=rfl;rw[Nw,jc hn];by_cases c0:cS m.n i=0
 ·rw[if_pos c0];obtain⟨h0,hi,_⟩:=oy c0;obtain⟨tok,ab⟩:=mU tab (by omega);have vV:i.toNat<s.table.setup.seats:=by rw[<-hn];exact hi
  have hl:fH m i=if m.round=m.rounds then-3 else if m.queues i.toNat=[]then-4 else 0:=by
   unfold fH jN;by_cases e1:m.round=m.rounds
   ·rw[if_pos ⟨c0,e1⟩,if_pos e1]
   ·rw[if_neg (fun h=>e1 h.2),if_neg e1];by_cases e2:m.queues i.toNat=[]
    ·rw[if_pos ⟨c0,e2⟩,if_pos e2]
    ·rw[if_neg (fun h=>e2 h.2),if_neg e2,c0]
  by_cases e1:m.round=m.rounds
  ·rw[if_pos e1]at hl;rw[hl];exact⟨fun _=>(Lj ab tok vV _).1 e1,.inl (by decide),fun h=>by cases h⟩
  ·rw[if_neg e1]at hl;cases hq:m.queues i.toNat with
   |nil=>
    rw[hq,if_pos rfl]at hl;rw[hl];exact⟨fun _=>(Lj ab tok vV _).2.1 e1 hq,.inl (by decide),fun h=>by cases h⟩
   |cons p r=>
    rw[hq,if_neg (by intro h;cases h)]at hl;rw[hl];have lU:bc s.table i.toNat=p::r:=by rw[<-ab.queues];exact hq
    have ed:HM s.table p=min m.takes p.cards.length:=by rw[ab.takes];rfl
    have ok:Ma.iQ s.table p (aG (min m.takes p.cards.length)):=by
     refine⟨?_,vP,fun k hk=>?_⟩
     ·rw[ba,ed]
     ·have:=bG.mp hk;omega
    refine⟨fun h=>absurd h (by decide),.inr rfl,fun _=>⟨p,r,h0,hi,rfl,e1,ok,?_⟩⟩;rw[lU];show gP s i.toNat (aG (HM s.table p))=_;rw[ed];exact((Lj ab tok vV _).2.2 e1 p r hq).2 ok
 ·rw[if_neg c0];have hl:fH m i=cS m.n i:=by unfold fH jN;rw[if_neg (fun h=>c0 h.1),if_neg (fun h=>c0 h.1)]
  rw[hl];refine⟨fun _=>rfl,?_,fun h=>absurd h c0⟩
  left
  unfold cS at c0⊢;split at c0
  ·rename_i e;split at c0
   ·rename_i e2;rw[if_pos e,if_pos e2];decide
   ·exact absurd rfl c0
  ·rename_i e;rw[if_neg e];decide
theorem ZO(T:Txt K mg ad):cF P w K mg base iC 8 ad.Ld ad.X7 ["line","call"] (jM ad 2):=by
 refine T.OZ.F.ok Kg (by rintro _ _ _ _ ⟨l,x,dc,na,ra,F,s,a,r,c,d,g,m,rfl,_⟩;rfl) (fun _ A _ s H vs Q E hr h=>?_)
 ·obtain⟨l,x,dc,na,ra,F,st,a,ns,c,d,g,m,rfl,ci,rf,k⟩:=h;obtain⟨i,rfl⟩:=fj ci.f rfl;cases (show some (OA i)=some d from ci.hd);have sx:=ci.sx;obtain⟨dl,hl⟩:=sx.line;obtain⟨dd,su,qz,_⟩:=sx.rep.gk;obtain⟨_,_,hs2⟩:=Jl sx.tab i;obtain⟨p,r,h0,hi,hq,LQ,ok,dB⟩:=hs2 rf;obtain⟨tok,ab⟩:=mU sx.tab (by omega);have hov:kP st.table=false:=by rw[yz ab tok,decide_eq_false LQ]
  have tk:=E8 ab tok sx.pk hov (by rw[<-ab.n];exact hi) (by rw[<-ab.queues];exact hq) ok;have ei:i=((i.toNat:Nat):Int):=by omega
  have hml:m.picks.length<=1000:=by rw[sx.pc];have:=ci.ok.xi.1;omega
  have hdu:=tk.Of;generalize hD:min m.takes p.cards.length=D at*;have mB:D<=1000:=by omega
  refine⟨_,(aC (cf (i:=2) Kg.nd rfl (be rfl) (eB cj (aQ (pv 1) rfl) aS (fun _ _=>rfl)))
   (aC (cf (i:=3) Kg.nd rfl (be rfl) (kY (Ih rfl) (by rfl) T.agv PyProof.Rows.boot_list (af (TU rfl T.De (af (gg (aQ (pv 0) rfl) T.a6 T.o6.m (Bf T) hr.mono T.o6.b .nil bp (af (pv 2) ay)) ay)) ay)))
   (aJ (bj (gg (aQ (pv 0) rfl) T.a6 T.bO.m (eN T) hr.mono T.bO.b .nil bp (af (gg (aQ (pv 0) rfl) T.a6 T.ir.m (oU T) hr.mono T.ir.b .nil bp (af (pv 2) (af (pv 3) ay))) ay)))))),?_⟩
  walk_at"";refine⟨_,_,dc,_,_,rfl,ci.hx,T.dW,T.cX,rfl,?_⟩;walk_at"";refine eO (bW.of ci.rL) (lX (ao _)) ?_;walk_at"";refine XH ?_;walk_at"";refine⟨_,_,dl,_,_,rfl,hl,T.e8,T.bP,rfl,?_⟩;refine⟨_,dd,_,rfl,qz,rfl,?_⟩;walk_at"";refine⟨g,m,i.toNat,p,r,by rw[<-ei];rfl,sx.rep,sx.pk.rN,hi,hq,?_⟩;rw[hD];walk_at"";refine⟨_,rfl,fun y hy=>?_⟩;walk_at"";refine⟨y,0,(D:Int),rfl,ak,by omega,by omega,fun la hla=>?_⟩;have s1:a7 H (upd (upd H y (.YM 0 (D:Int))) la (.lst ((aG ((D:Int)-0).toNat).map fun k:Nat=>.int (0+(k:Int))))):=(aP _ hy).trans (aP _ hla);have ac6:H la=none:=(aP _ hy).free hla;have hlv:upd (upd H y (.YM 0 (D:Int))) la (.lst ((aG ((D:Int)-0).toNat).map fun k:Nat=>.int (0+(k:Int)))) la=some (.lst ((aG D).map nV)):=by
   rw[ak];have e:((D:Int)-0).toNat=D:=by omega
   rw[e]
   congr 2
   apply bU
   intro z _;exact congrArg V.int (by omega)
  generalize upd (upd H y (.YM 0 (D:Int))) la (.lst ((aG ((D:Int)-0).toNat).map fun k:Nat=>.int (0+(k:Int))))=H1 at s1 hlv⊢;have ora:Out g m la:=fun rr Ny q=>sx.tr (b:=la) (by rw[sx.ft];exact .inr (.inl ⟨rr,Ny,q⟩)) ac6
  obtain⟨zs,R1⟩:=(sx.rep.same s1).freeze hlv ora;have nla:l≠la:=aR hl ac6;generalize aG D=pl at*;walk_at"";refine⟨_,_,dl,_,_,rfl,s1 _ _ hl,T.e8,T.bP,rfl,?_⟩;refine⟨_,dd,_,rfl,s1 _ _ qz,rfl,?_⟩;walk_at"";refine⟨_,_,dl,_,_,rfl,s1 _ _ hl,T.e8,T.bP,rfl,?_⟩;refine⟨_,dd,_,rfl,s1 _ _ qz,rfl,?_⟩;walk_at"";refine⟨kr g la (.lst (pl.map nV)),m,i.toNat,p,r,la,pl,by rw[<-ei];rfl,R1,sx.pk.rN,tk.hi,tk.hq,tk.sm,AG _ _ _,hml,tk.rd,tk.c3,tk.lt,tk.Of,tk.pool,tk.fl,tk.oi,tk.n8,tk.s5,fun H3 g3 q3 R3 F3 ed vT vS oq3=>?_⟩;obtain⟨sx3,kp3⟩:=Mf (a:=ra) (g1:=kr g la (.lst (pl.map nV))) sx tk s1 rfl (fun b h=>(OW h).imp_right fun e=>.inr (by rw[e];exact ac6)) (by rw[show(kr g la (.lst (pl.map nV))).z l=g.z l from cq nla];exact sx.zl) R3 F3 ed;obtain⟨gi,gl⟩:=XD ab tok tk;refine⟨g3,_,_,Ma.got p.cards pl,by rw[ed];rfl,R3,bW.of vS,by omega,gi,fun H4 q4 s4 NA yR=>?_⟩;rw[t6 tk.abs]at yR;refine k H4 _ q4 (cM (dP st.table i.toNat pl) (Ma.got p.cards pl)) ?_ (kp3.same s4) (by rw[dB]) yR;rw[dB];exact⟨g3,_,sx3.same s4⟩
theorem Mt(c:Nat)(l:List Nat):∀ls:List (List Nat),Ri (ls++[l]) c=ls++[l++[c]]
 |[]=>rfl
 |[x]=>rfl
 |x::y::r=>by
  show x::Ri ((y::r)++[l]) c=_;rw[Mt c l (y::r)];rfl
theorem Rh{α:Type}{l:List α}(h:l≠ []):∃l0 a,l=l0++[a]:=⟨l.dropLast,l.getLast h,(List.dropLast_concat_getLast h).symm⟩
theorem fW.snoc{H H1:Hp}{q p:Addr}{ss:List Addr}{ls:List (List Nat)}{l:List Nat}(L:fW H q ss ls)(s:a7 H H1)(hp:H p=none)(zh:H1 p=some (.lst (l.map nV))):fW (upd H1 q (.lst (ss.map V.ref++[.ref p]))) q (ss++[p]) (ls++[l]):=by
 have nq:p≠q:=fun e=>by rw[e,L.lst]at hp;cases hp
 have itm:∀a∈ss,a≠p:=fun a ha=>by
  obtain⟨j,hj⟩:=lx ha;have Qk:j<ls.length:=by rw[<-L.len];exact(aw.mp hj).1
  exact aR (L.item j a _ hj (aB Qk)) hp
 refine⟨by rw[aF];exact ak,?_,by rw[ai,ai,L.len];rfl,fun j a x h1 h2=>?_⟩
 ·rw[<-FC];refine Ac L.nd fun h=>?_
  rcases aM.mp h with h|h
  ·exact nq h
  ·exact itm p h rfl
 ·by_cases hj:j<ss.length
  ·rw[cG hj]at h1;rw[cG (by rw[<-L.len];exact hj)]at h2;have ha:=bC h1;exact aX (fun e=>(cB.mp L.nd).1 (e▸ha)) (s _ _ (L.item j a x h1 h2))
  ·have ej:j=ss.length:=by
    have:=(aw.mp h1).1;rw[ai]at this;simp at this;omega
   subst ej;rw[bY (ao _),hG]at h1;rw[L.len,bY (ao _),hG]at h2;cases h1;cases h2;exact aX nq zh
theorem fW.last{H:Hp}{q:Addr}{ss:List Addr}{ls:List (List Nat)}(L:fW H q ss ls)(h:ls≠ []):∃Pc b Uh l,ss=Pc++[b]/\ls=Uh++[l]/\H b=some (.lst (l.map nV)):=by
 have h2:ss≠ []:=fun e=>by have:=L.len;rw[e]at this;exact h (fD this.symm)
 obtain⟨Pc,b,rfl⟩:=Rh h2;obtain⟨Uh,l,rfl⟩:=Rh h;have e:=L.len;rw[ai,ai]at e;have e:Pc.length=Uh.length:=Y6 e;refine⟨Pc,b,Uh,l,rfl,rfl,L.item Pc.length b l ?_ ?_⟩
 ·rw[bY (ao _),hG];rfl
 ·rw[e,bY (ao _),hG];rfl
theorem fW.put{H:Hp}{q b:Addr}{ss:List Addr}{ls:List (List Nat)}{l l':List Nat}(L:fW H q (ss++[b]) (ls++[l])):fW (upd H b (.lst (l'.map nV))) q (ss++[b]) (ls++[l']):=by
 have nd:=L.nd;have qb:q≠b:=fun e=>(cB.mp nd).1 (by rw[e];exact aH.mpr (.inr ah))
 have e:=L.len;rw[ai,ai]at e;have e:ss.length=ls.length:=Y6 e;refine⟨aX qb L.lst,nd,by rw[ai,ai,e];rfl,fun j a x h1 h2=>?_⟩;by_cases hj:j<ss.length
 ·have nb:a≠b:=fun q=>by
   rw[cG hj]at h1;exact(gw.mp (cB.mp nd).2).2.2 a (bC h1) b ah q
  rw[cG (by rw[<-e];exact hj)]at h2;exact aX nb (L.item j a x h1 (by rw[cG (by rw[<-e];exact hj)];exact h2))
 ·have ej:j=ss.length:=by
   have:=(aw.mp h1).1;rw[ai]at this;simp at this;omega
  subst ej;rw[bY (ao _),hG]at h1;rw[e,bY (ao _),hG]at h2;cases h1;cases h2;exact ak
def aeX:Sp:=fun vs H Q _=>E3 fun(a:Addr) (mk:Nat) (ns:List Nat)=>A4 (vs=[.ref a,.int (mk:Int)]) (H a=some (.lst (ns.map nV))) (ns.length<=100000) (∀H' q ss,a7 H H'->(∀b∈q::ss,H b=none)->fW H' q ss (bL mk ns)->Q (.ref q) H')
theorem KG(T:Txt K mg ad):cF P w K mg base iC 1 ad.abL ad.abS ["numbers","mark"] aeX:=by
 refine T.tX.F.ok Pu (by rintro _ _ _ _ ⟨a,mk,ns,rfl,_⟩;rfl) (fun _ A _ s H vs Q E hr h=>?_)
 ·obtain⟨a,mk,ns,rfl,ha,hl,k⟩:=h;refine⟨_,(aC (cf (i:=2) Pu.nd rfl (be rfl) (fg (af (fg ay) ay)))
   (aC (jP ck rfl (hJ (pv 0)) (cv (i:=3) Pu.nd rfl (be rfl))
   (aJ (i6 (eP vC (pv 3) (pv 1) (fP _))
   (aJ (eu (lr a9 cK cJ ju (pv 2) (af (fg ay) ay))))
   (aJ (eu (lr a9 cK cJ ju (eB cj (pv 2) (MW FO aS) (fun _ _=>rfl)) (af (pv 3) ay)))))))
   (aJ (bj (pv 2))))),?_⟩
  walk_at"";refine⟨by decide,fun p hp=>?_⟩;walk_at"";refine⟨by show 1<=sizeLine;decide,fun q hq=>?_⟩;have OO:H q=none:=(aP _ hp).free hq;have npq:p≠q:=fun e=>by rw[<-e,ak]at hq;cases hq
  have s0:a7 H (upd (upd H p (.lst [])) q (.lst [.ref p])):=(aP _ hp).trans (aP _ hq);walk_at"";refine⟨_,rfl,⟨_,bW.of (s0 _ _ ha)⟩,?_⟩;refine qZ (xs:=ns.map nV) (fun j σ H'=>∃(v3:Option V) (ss:List Addr),σ=[some (.ref a),some (.int (mk:Int)),some (.ref q),v3]/\a7 H H'/\(∀b∈ss,H b=none)/\fW H' q ss (bL mk (ns.take j)))
   ⟨none,[p],rfl,s0,fun b hb=>by rw[aN.mp hb];exact hp,⟨ak,?_,rfl,fun j b l h1 h2=>?_⟩⟩ (fun j σ H' _ ⟨_,_,_,s2,_⟩=>s2.seq (bW.of ha)) ?_ ?_
  ·exact cB.mpr ⟨fun h=>npq (aN.mp h).symm,by simp⟩
  ·match j,h1,h2 with
   |0,h1,h2=>
    cases h1;cases (show some []=some l from h2);exact aX npq ak
   |j+1,h1,_=>exact absurd h1 (by simp)
  ·rintro j y σ H' hy ⟨v3,ss,rfl,s2,hss,L⟩;obtain⟨c,hc,rfl⟩:=get_map hy;have Qk:j<ns.length:=(aw.mp hc).1;have hsl:=split_len mk (ns.take j);rw[<-L.len,bt]at hsl;walk_at"";refine ik (fun e=>?_) fun e=>?_
   ·have e:c=mk:=by have:=of_decide_eq_true e;omega
    walk_at"";refine⟨.inl ⟨rfl,_,bW.of L.lst⟩,?_⟩;walk_at"";refine⟨by decide,fun r hr=>?_⟩;have sr:=aP (.lst []) hr;walk_at"";refine xx (sr _ _ L.lst) (zg (by rw[ae];omega)) ?_;refine⟨_,ss++[r],rfl,a7.put OO (s2.trans sr),fun b hb=>?_,?_⟩
    ·rcases aH.mp hb with hb|hb
     ·exact hss b hb
     ·rw[aN.mp hb];exact s2.free hr
    ·rw[take_snoc hc,zN,if_pos e];exact L.snoc (l:=[]) sr hr ak
   ·have e:¬c=mk:=fun z=>e (decide_eq_true (by rw[z]))
    obtain⟨Pc,b,Uh,l,rfl,els,hb⟩:=L.last (AO _ _);rw[els]at L;have hlen:l.length<=ns.length:=by
     have:=(l9 mk (ns.take j) l (by rw[els];exact aH.mpr (.inr ah))).1;rw[bt]at this;omega
    have hbH:H b=none:=hss b (aH.mpr (.inr ah));have hL:=L.lst;rw[aF]at hL;walk_at"";refine eO (bW.of hL) (Oi _ _) ?_;refine⟨.inl ⟨rfl,_,bW.of hb⟩,?_⟩;walk_at"";refine xx hb (zg (by rw[ae];omega)) ?_;refine⟨_,Pc++[b],rfl,a7.put hbH s2,hss,?_⟩;rw[take_snoc hc,zN,if_neg e,els,Mt];have ee:l.map nV++[V.int (c:Int)]=(l++[c]).map nV:=by rw[aF];rfl
    rw[ee];exact L.put
  ·rintro σ H' ⟨v3,ss,rfl,s2,hss,L⟩;rw[ae,bJ]at L;walk_at"";refine k H' q ss s2 (fun b hb=>?_) L;rcases aM.mp hb with e|hb
   ·rw[e];exact OO
   ·exact hss b hb
def Zm:Sp:=fun vs H Q _=>E2 fun(a:Addr) (b:List Nat)=>A4 (vs=[.ref a]) (H a=some (.lst (b.map nV))) (b.length<=100000) (∀H',a7 H H'->Q (.bl (u7 b)) H')
theorem ad2(b:List Nat)(l m:Nat):(b.map fun n:Nat=>(n:Int)).all (wi l m)=b.all fun c=>decide (l<=c)&&decide (c<=m):=by
 rw[rK]
 congr 1
 funext c
 show(decide ((l:Int)<=(c:Int))&&decide ((c:Int)<=(m:Int)))=_
 congr 1
 ·exact decide_eq_decide.mpr (by omega)
 ·exact decide_eq_decide.mpr (by omega)
theorem VJ(n l m:Nat):(decide ((l:Int)<=(n:Int))&&decide ((n:Int)<=(m:Int)))=(decide (l<=n)&&decide (n<=m)):=by
 congr 1
 ·exact decide_eq_decide.mpr (by omega)
 ·exact decide_eq_decide.mpr (by omega)
theorem nVI(b:List Nat):b.map nV=(b.map fun n:Nat=>(n:Int)).map V.int:=by rw[cO];rfl
theorem KE(T:Txt K mg ad):cF P w K mg base iC 3 ad.DZ ad.Eb ["digits"] Zm:=by
 refine T.rS.F.ok Ki (by rintro _ _ _ _ ⟨a,b,rfl,_⟩;rfl) (fun _ A _ s H vs Q E hr h=>?_)
 ·obtain⟨a,b,rfl,ha,hl,k⟩:=h;unfold u7 at k;refine⟨_,(aC (i6 (PW.pt (IU (oB (kF (bF (iY T) hr.mono rfl T.cE.g T.cE.F.kp T.cE.b .nil bp (af (bH bg (by rfl) T.jx aV (af (pv 0) ay)) (af aS (af aS ay)))))) (Cv (oB (kF (bF (jd T) hr.mono rfl T.cC.g T.cC.F.kp T.cC.b .nil bp (af (pv 0) (af (bS rfl T.C9) (af (bS rfl T.UU) ay)))))))))
   (aJ (bj WM))
   eZ)
   (aJ (bj (ae7 (yy vC (bH bg (by rfl) T.jx aV (af (pv 0) ay)) aS (fP _)) (CD (yy RH (eB cj (pv 0) aS (fun _ _=>rfl)) (bS rfl T.C9) (fP _))))))),?_⟩
  walk_at"";refine⟨a,_,rfl,.inl (bW.of ha),?_⟩;rw[ae];walk_at"";refine⟨_,1,2,rfl,?_⟩;rw[show(1:Int)=((1:Nat):Int)from rfl,show(2:Int)=((2:Nat):Int)from rfl,VJ];walk_at"";cases c1:(decide (1<=b.length)&&decide (b.length<=2))with
  |false=>
   rw[c1]at k;walk_at"";refine oH ?_;refine oH ?_;walk_at"";exact k H (a7.refl H)
  |true=>
   rw[c1]at k;refine EF ?_;walk_at"";refine⟨a,48,57,b.map fun n:Nat=>(n:Int),rfl,bW.of (by rw[<-nVI];exact ha),by rw[ae];exact hl,fun H1 s1=>?_⟩;rw[show(48:Int)=((48:Nat):Int)from rfl,show(57:Int)=((57:Nat):Int)from rfl,ad2];walk_at"";cases c2:(b.all fun c=>decide (48<=c)&&decide (c<=57))with
   |false=>
    rw[c2]at k;refine oH ?_;walk_at"";exact k H1 s1
   |true=>
    rw[c2,fO,fO]at k;refine EF ?_;walk_at"";refine⟨a,_,rfl,.inl (s1.seq (bW.of ha)),?_⟩;rw[ae];walk_at"";have e1:decide (((b.length:Nat):Int)=((1:Nat):Int))=decide (b.length=1):=decide_eq_decide.mpr (by omega);rw[e1];cases c3:decide (b.length=1)with
    |true=>rw[c3]at k;refine oH ?_;exact k H1 s1
    |false=>
     rw[c3,Bool.false_or]at k;refine EF ?_;rw[aE]at c1;have b1:=of_decide_eq_true c1.1;match b,b1,ha,k with
     |x::r,_,ha,k=>
      walk_at"";refine eO (s1.seq (bW.of ha)) (ya (uL 0) rfl) ?_;walk_at"";have e2:(!decide ((x:Int)=((48:Nat):Int)))=decide ((x::r).head?≠some 48):=by
       rw[<-decide_not];exact decide_eq_decide.mpr ⟨fun h e=>h (by cases e;rfl),fun h e=>h (by rw[List.head?_cons,show x=48 by omega])⟩
      rw[e2];exact k H1 s1
def Zl:Sp:=fun vs H Q _=>E2 fun(a:Addr) (l:List Nat)=>A4 (vs=[.ref a]) (H a=some (.lst (l.map nV))) (l.length<=90000) (∀H',a7 H H'->Q (.bl (lL l)) H')
theorem EB(T:Txt K mg ad):cF P w K mg base iC 4 ad.xB ad.xP ["line"] Zl:=by
 refine T.mM.F.ok lS (by rintro _ _ _ _ ⟨a,b,rfl,_⟩;rfl) (fun _ A _ s H vs Q E hr h=>?_)
 ·obtain⟨a,l,rfl,ha,hl,k⟩:=h;unfold lL at k;have hsl:=split_len 32 l;refine⟨_,(aC (cf (i:=1) lS.nd rfl (be rfl) (bF (KG T) hr.mono rfl T.tX.g T.tX.F.kp T.tX.b .nil bp (af (pv 0) (af (bS rfl T.Lu) ay))))
   (aJ (bj (wW (bF (iY T) hr.mono rfl T.cE.g T.cE.F.kp T.cE.b .nil bp (af (bH bg (by rfl) T.jx aV (af (pv 1) ay)) (af aS (af aS ay)))) (CD (bH (Yh rfl) (by rfl) T.agw HH (af (si rfl lS.nd (hJ (pv 1)) (gZ (N:=["line","parts","part"]) (sc:=aL qM) (own:=[("part",2)]) (by decide+kernel)) (fun _ _ _ _ _=>(cv (i:=2) lS.nd rfl (be rfl) (jh rfl))) (fun _ _ _ _ _=>jO) (fun _ _ _ _ _=>(bF (KE T) hr.mono rfl T.rS.g T.rS.F.kp T.rS.b .nil bp (af (pv 2) ay)))) ay))))))),?_⟩
  walk_at"";refine⟨a,32,l,rfl,ha,by omega,fun H1 q ss s1 hn L=>?_⟩;walk_at"";refine⟨q,_,rfl,.inl (bW.of L.lst),?_⟩;rw[ae,L.len];walk_at"";refine⟨_,2,4,rfl,?_⟩;rw[show(2:Int)=((2:Nat):Int)from rfl,show(4:Int)=((4:Nat):Int)from rfl,VJ];walk_at"";cases c1:(decide (2<=(bL 32 l).length)&&decide ((bL 32 l).length<=4))with
  |false=>rw[c1]at k;refine EF ?_;exact k H1 s1
  |true=>
   rw[c1,fO]at k;refine oH ?_;walk_at"";refine⟨q,rfl,⟨_,bW.of L.lst⟩,fun D hD=>?_⟩;refine k5 (xs:=ss.map V.ref) (fun i H'=>a7 H1 H'/\H' D=some (.lst ((((bL 32 l).take i).map u7).map V.bl))) ⟨aP _ hD,ak⟩ (fun i H' _ h=>h.1.seq (bW.of L.lst)) ?_ ?_
   ·rintro i x H' hx ⟨s2,mB⟩;obtain⟨b,hb,rfl⟩:=get_map hx;have hi:i<(bL 32 l).length:=by rw[<-L.len];exact(aw.mp hb).1
    have hp:=aB hi;have pl:=(l9 32 l _ (df hi)).1;walk_at"";refine⟨rfl,?_⟩;walk_at"";refine oH ?_;walk_at"";refine⟨b,_,rfl,s2 _ _ (L.item i b _ hb hp),by omega,fun H3 s3=>⟨_,s3 _ _ mB,zg ?_,a7.put hD (s2.trans s3),?_⟩⟩
    ·rw[ae,ae,bt];omega
    ·rw[take_snoc hp,aF,aF];exact ak
   ·rintro H' ⟨s2,mB⟩;rw[ae,L.len,bJ]at mB;walk_at"";refine⟨D,_,rfl,bW.of mB,?_⟩;have e:((bL 32 l).map u7).all id=(bL 32 l).all u7:=by rw[rK];rfl
    rw[e];exact k H' (s1.trans s2)
theorem Yf{xs:List V}(h:1<=xs.length):qt xs none (some (-1))=xs.dropLast:=by
 unfold qt;have e:HT.HK xs.length xs.length (some (-1))=xs.length-1:=by
  unfold HT.HK;simp only[];split<;>omega
 have e0:HT.HK xs.length 0 none=0:=rfl;rw[e,e0,List.drop_zero,Nat.sub_zero,List.dropLast_eq_take]
theorem Yd(xs:List V):qt xs (some 1) none=xs.tail:=by
 unfold qt;have e:HT.HK xs.length 0 (some 1)=min 1 xs.length:=HT.Fd _ _ 1;have e0:HT.HK xs.length xs.length none=xs.length:=rfl;rw[e,e0];cases xs with
 |nil=>rfl
 |cons x r=>
  rw[show min 1 (x::r).length=1 by rw[az];omega];show r.take (r.length+1-1)=r;rw[YI,bJ]
theorem Dk:∀(ls:List (List Nat)) (l:List Nat) (n:Nat),(∀x∈ls,lL x=true)->ib n (ls++[l])=if l.isEmpty=true then 0 else n+ls.length
 |[],l,n,_=>rfl
 |x::ls,l,n,h=>by
  have e:ib n (x::(ls++[l]))=if lL x=true then ib (n+1) (ls++[l])else n:=by
   cases ls with
   |nil=>rfl
   |cons y r=>rfl
  show ib n (x::(ls++[l]))=_;rw[e,if_pos (h x ah),Dk ls l (n+1) fun y hy=>h y (aA _ hy),az];split
  ·rfl
  ·omega
theorem FI:∀(ls:List (List Nat)) (l:List Nat) (n j:Nat) (x:List Nat),(∀y∈ls.take j,lL y=true)->ls[j]? =some x->lL x=false->ib n (ls++[l])=n+j
 |[],l,n,j,x,_,h,_=>by simp at h
 |y::ls,l,n,j,x,h,hx,hb=>by
  have e:ib n (y::(ls++[l]))=if lL y=true then ib (n+1) (ls++[l])else n:=by
   cases ls with
   |nil=>rfl
   |cons y r=>rfl
  show ib n (y::(ls++[l]))=_;rw[e];cases j with
  |zero=>
   have:y=x:=ax hx;rw[this,hb,if_neg (by decide)];rfl
  |succ j=>
   rw[if_pos (h y (by rw[AE];exact ah)),FI ls l (n+1) j x (fun z hz=>h z (by rw[AE];exact aA _ hz)) hx hb];omega
def Ze:Sp:=fun vs H Q _=>E2 fun(a:Addr) (ns:List Nat)=>A4 (vs=[.ref a]) (H a=some (.lst (ns.map nV))) (ns.length<=80000) (∀H',a7 H H'->Q (.int ((ib 1 (bL 10 ns):Nat):Int)) H')
theorem fW.ago{H:Hp}{q p:Addr}{ss:List Addr}{ls:List (List Nat)}(L:fW H q ss ls)(h:ls≠ [])(hp:H p=none):fW (upd H p (.lst (qt (ss.map V.ref) none (some (-1))))) p ss.dropLast ls.dropLast:=by
 have s:=aP (.lst (qt (ss.map V.ref) none (some (-1)))) hp;have hl:1<=ss.length:=by rw[L.len];exact iF.mpr h
 refine⟨?_,?_,by rw[jj,jj,L.len],fun j a l h1 h2=>?_⟩
 ·rw[Yf (by rw[ae];exact hl),List.map_dropLast];exact ak
 ·refine cB.mpr ⟨fun m=>?_,(List.dropLast_sublist ss).nodup (cB.mp L.nd).2⟩;obtain⟨j,hj⟩:=lx (S7 ss m);have Qk:j<ls.length:=by rw[<-L.len];exact(aw.mp hj).1
  have:=L.item j p _ hj (aB Qk);rw[hp]at this;cases this
 ·have g1:=(aw.mp h1).1;have g2:=(aw.mp h2).1;rw[OV,if_pos (by rw[jj]at g1;exact g1)]at h1;rw[OV,if_pos (by rw[jj]at g2;exact g2)]at h2;exact s _ _ (L.item j a l h1 h2)
theorem yP(T:Txt K mg ad):cF P w K mg base iC 5 ad.rb ad.rj ["record"] Ze:=by
 refine T.jL.F.ok jn (by rintro _ _ _ _ ⟨a,b,rfl,_⟩;rfl) (fun _ A _ s H vs Q E hr h=>?_)
 ·obtain⟨a,ns,rfl,ha,hl,k⟩:=h;have hsl:=split_len 10 ns;refine⟨_,(aC (cf (i:=1) jn.nd rfl (be rfl) (bF (KG T) hr.mono rfl T.tX.g T.tX.F.kp T.tX.b .nil bp (af (pv 0) (af (bS rfl T.Aq) ay))))
   (aC (jP ck rfl (MV rfl T.mr (af (qQ uR (pv 1) sg (iS (MW FO aS))) ay)) (tI rfl (fR (cv (i:=2) jn.nd rfl (be rfl)) (fR (cv (i:=3) jn.nd rfl (be rfl)) oT)))
   (aJ (i6 (oB (kF (bF (EB T) hr.mono rfl T.mM.g T.mM.F.kp T.mM.b .nil bp (af (pv 3) ay))))
   (aJ (bj (pv 2)))
   eZ)))
   (aJ (bj (Gz (eP zc (bH bg (by rfl) T.jx aV (af (eB cj (pv 1) (MW FO aS) (fun _ _=>rfl)) ay)) aS (fP _)) (bH bg (by rfl) T.jx aV (af (pv 1) ay)) aS))))),?_⟩
  walk_at"";refine⟨a,10,ns,rfl,ha,by omega,fun H1 q ss s1 hn L=>?_⟩;have j1:=AO 10 ns;have Sb:=l9 10 ns;generalize bL 10 ns=ls at*;obtain⟨Pc,b,Uh,l,rfl,rfl,hb⟩:=L.last j1;walk_at"";refine NJ ?_;walk_at"";refine⟨q,_,rfl,bW.of L.lst,fun p hp=>?_⟩;have Lc:=L.ago j1 hp;have s2:=s1.trans (aP (.lst (qt ((Pc++[b]).map V.ref) none (some (-1)))) hp);have uH:=aP (.lst (qt ((Pc++[b]).map V.ref) none (some (-1)))) hp _ _ L.lst;have hb2:=aP (.lst (qt ((Pc++[b]).map V.ref) none (some (-1)))) hp _ _ hb;rw[show(Pc++[b]).dropLast=Pc from S8,show(Uh++[l]).dropLast=Uh from S8]at Lc;generalize upd H1 p (.lst (qt ((Pc++[b]).map V.ref) none (some (-1))))=H2 at Lc s2 uH hb2⊢;walk_at"";refine⟨p,_,rfl,bW.of Lc.lst,?_⟩;refine Jz (xs:=Pc.map V.ref) (fun j σ H'=>∃v2 v3:Option V,σ=[some (.ref a),some (.ref q),v2,v3]/\a7 H2 H'/\∀x∈Uh.take j,lL x=true)
   ⟨none,none,rfl,a7.refl _,fun x hx=>by cases hx⟩ (fun j σ H' _ ⟨_,_,_,s3,_⟩=>s3.seq (bW.of Lc.lst)) ?_ ?_
  ·rintro j y σ H' tt hy ⟨v2,v3,rfl,s3,pO⟩ htt;obtain⟨c,hc,rfl⟩:=get_map hy;have hj:j<Uh.length:=by rw[<-Lc.len];exact(aw.mp hc).1
   have hx:=aB hj;have hxl:=(Sb _ (aH.mpr (.inl (df hj)))).1;have s4:=s3.trans (aP (.tup [.int ((j+1:Nat):Int),.ref c]) htt);refine zj (wa.of ak) rfl ?_;generalize upd H' tt (.tup [.int ((j+1:Nat):Int),.ref c])=H4 at s4⊢;walk_at"";refine⟨c,_,rfl,s4 _ _ (Lc.item j c _ hc hx),by omega,fun H5 s5=>?_⟩;walk_at"";cases hB:lL Uh[j]with
   |false=>
    refine oH ?_;walk_at"";have e:=FI Uh l 1 j _ pO hx hB;rw[e,yj]at k;exact k H5 ((s2.trans s4).trans s5)
   |true=>
    refine EF ?_;walk_at"";refine⟨_,_,rfl,s4.trans s5,fun x hm=>?_⟩;rw[take_snoc hx]at hm;rcases aH.mp hm with hm|hm
    ·exact pO x hm
    ·rw[aN.mp hm];exact hB
  ·rintro σ H' ⟨v2,v3,rfl,s3,pO⟩;rw[ae,Lc.len,bJ]at pO;have e:=Dk Uh l 1 pO;rw[e]at k;have vT:=s3 _ _ uH;have hL:=vT;rw[aF]at hL;walk_at"";refine eO (bW.of hL) (Oi _ _) ?_;walk_at"";refine⟨b,_,rfl,.inl (bW.of (s3 _ _ hb2)),?_⟩;rw[ae];walk_at"";cases l with
   |nil=>
    refine EF ?_;walk_at"";exact k H' (s2.trans s3)
   |cons x l=>
    refine ik (fun _=>?_) fun c=>absurd (decide_eq_true (by rw[az];omega)) c
    walk_at"";refine⟨q,_,rfl,.inl (bW.of vT),?_⟩;rw[ae,L.len,ai];rw[if_neg (by simp),yj]at k;exact k H' (s2.trans s3)
def aca:Sp:=fun vs H Q _=>E2 fun(a:Addr) (b:List Nat)=>A4 (vs=[.ref a]) (H a=some (.lst (b.map nV))) (u7 b=true) (Q (.int ((tJ b:Nat):Int)) H)
theorem GF(T:Txt K mg ad):cF P w K mg base iC 1 ad.zt ad.zB ["digits"] aca:=by
 refine T.oQ.F.ok mX (by rintro _ _ _ _ ⟨a,b,rfl,_⟩;rfl) (fun _ A _ s H vs Q E hr h=>?_)
 ·obtain⟨a,b,rfl,ha,hb,k⟩:=h;have h48:∀c∈b,48<=c:=fun c hc=>by
   unfold u7 at hb;rw[aE,aE,aE,bD]at hb;have:=hb.2.1 c hc;rw[aE]at this;exact of_decide_eq_true this.1
  refine⟨_,(aC (cf (i:=1) mX.nd rfl (be rfl) aS)
   (aC (jP ck rfl (hJ (pv 0)) (cv (i:=2) mX.nd rfl (be rfl))
   (aJ (cf (i:=1) mX.nd rfl (be rfl) (gF CK (gF qR (gF KA aS (pv 1)) (pv 2)) (bS rfl T.C9)))))
   (aJ (bj (pv 1))))),?_⟩
  walk_at"";refine⟨_,rfl,⟨_,bW.of ha⟩,?_⟩;refine qZ (xs:=b.map nV) (fun j σ H'=>∃v2:Option V,σ=[some (.ref a),some (.int ((tJ (b.take j):Nat):Int)),v2]/\H'=H)
   ⟨none,rfl,rfl⟩ (fun j σ H' _ ⟨_,_,e⟩=>by rw[e];exact bW.of ha) ?_ ?_
  ·rintro j y σ H' hy ⟨v2,rfl,rfl⟩;obtain⟨c,hc,rfl⟩:=get_map hy;have:=h48 c (bC hc);walk_at"";refine EH (.inl (by decide)) ?_;walk_at"";refine⟨some (nV c),?_,rfl⟩;rw[take_snoc hc];have e:tJ (b.take j++[c])=10*tJ (b.take j)+(c-48):=by unfold tJ;rw[om];rfl
   rw[e];have e2:((10*tJ (b.take j)+(c-48):Nat):Int)=10*((tJ (b.take j):Nat):Int)+(c:Int)-48:=by omega
   rw[e2];rfl
  ·rintro σ H' ⟨v2,rfl,rfl⟩;rw[ae,bJ];walk_at"";exact k
def Zi(ad:Ad):Sp:=fun vs H Q _=>E2 fun(a:Addr) (l:List Nat)=>A5 (vs=[.ref a]) (H a=some (.lst (l.map nV))) (l.length<=90000) (lL l=true) (∀H' x dx na ra,a7 H H'->H x=none->H na=none->H ra=none->H' x=some (.ins ad.nG dx (caF 1 na ra))->H' na=some (.lst [nV (kJ l).1])->H' ra=some (.lst ((kJ l).2.map nV))->Q (.ref x) H')
theorem KC(T:Txt K mg ad):cF P w K mg base iC 3 ad.DW ad.D9 ["line"] (Zi ad):=by
 refine T.rQ.F.ok uU (by rintro _ _ _ _ ⟨a,b,rfl,_⟩;rfl) (fun _ A _ s H vs Q E hr h=>?_)
 ·obtain⟨a,l,rfl,ha,hl,hB,k⟩:=h;obtain⟨_,_,_,_,em⟩:=RO hB;have hsl:=split_len 32 l;have pO:∀b∈bL 32 l,u7 b=true:=by
   unfold lL at hB;rw[aE]at hB;exact bD.mp hB.2
  refine⟨_,(aC (Gn (i:=1) rfl uU.nd rfl rfl (J7 rfl rfl rfl (by decide+kernel)) (hJ (bF (KG T) hr.mono rfl T.tX.g T.tX.F.kp T.tX.b .nil bp (af (pv 0) (af (bS rfl T.Lu) ay)))) (gZ (N:=["line","numbers","part"]) (sc:=aL wI) (own:=[("part",2)]) (by decide+kernel)) (fun _ _ _ _ _=>(cv (i:=2) uU.nd rfl (be rfl) (jh rfl))) (fun _ _ _ _ _=>jO) (fun _ _ _ _ _=>(bF (GF T) hr.mono rfl T.oQ.g T.oQ.F.kp T.oQ.b .nil bp (af (pv 2) ay))))
   (aJ (bj (lT T.o7.m (Bg T) hr.mono rfl T.RP T.o7.b .nil bp (af (bS rfl T.adX) (af (fg (af (eB cj (pv 1) aS (fun _ _=>rfl)) ay)) (af (qQ uR (pv 1) (iS aS) sg) ay))))))),?_⟩
  walk_at"";refine⟨a,32,l,rfl,ha,by omega,fun H1 q ss s1 hn L=>?_⟩;walk_at"";refine⟨q,rfl,⟨_,bW.of L.lst⟩,fun D hD=>?_⟩;refine k5 (xs:=ss.map V.ref) (fun i H'=>a7 H1 H'/\H' D=some (.lst ((((bL 32 l).take i).map tJ).map nV))) ⟨aP _ hD,ak⟩ (fun i H' _ h=>h.1.seq (bW.of L.lst)) ?_ ?_
  ·rintro i x H' hx ⟨s2,mB⟩;obtain⟨b,hb,rfl⟩:=get_map hx;have hi:i<(bL 32 l).length:=by rw[<-L.len];exact(aw.mp hb).1
   have hp:=aB hi;walk_at"";refine⟨rfl,?_⟩;walk_at"";refine oH ?_;walk_at"";refine⟨b,_,rfl,s2 _ _ (L.item i b _ hb hp),pO _ (df hi),_,mB,zg ?_,a7.put hD s2,?_⟩
   ·rw[ae,ae,bt];omega
   ·rw[take_snoc hp,aF,aF];exact ak
  ·rintro H' ⟨s2,mB⟩;rw[ae,L.len,bJ,em]at mB;have IJ:=s1.trans s2;walk_at"";refine eO (bW.of mB) (ya (uL 0) rfl) ?_;walk_at"";refine⟨by show 1<=sizeLine;decide,fun na rL=>?_⟩;have s3:=aP (.lst [nV (kJ l).1]) rL;walk_at"";refine⟨D,_,rfl,bW.of (s3 _ _ mB),fun ra pW=>?_⟩;rw[Yd];have s4:=aP (.lst (((kJ l).1::(kJ l).2).map nV).tail) pW;walk_at"";intro x dx hx hdx j1;refine⟨x,dx,1,na,ra,rfl,ak,fun H5 e5 b5=>⟨rfl,?_⟩⟩;have s5:=a7.made hx hdx b5;exact k H5 x dx na ra (((IJ.trans s3).trans s4).trans s5) (((IJ.trans s3).trans s4).free hx) (IJ.free rL) ((IJ.trans s3).free pW) e5 (s5 _ _ (s4 _ _ ak)) (s5 _ _ ak)
structure SM(ad:Ad)(H0 H:Hp)(xs:List Addr)(ms:NL):Prop where
 len:xs.length=ms.length
 at_:∀(j:Nat) (x:Addr) (mv:Nat×List Nat),xs[j]? =some x->ms[j]? =some mv->∃dx na ra,H x=some (.ins ad.nG dx (caF 1 na ra))/\H na=some (.lst [nV mv.1])/\H ra=some (.lst (mv.2.map nV))/\H0 x=none/\H0 na=none/\H0 ra=none
def ab9(ad:Ad):Sp:=fun vs H Q _=>E2 fun(a:Addr) (ns:List Nat)=>A5 (vs=[.ref a]) (H a=some (.lst (ns.map nV))) (ns.length<=80000) (∀l∈(bL 10 ns).dropLast,lL l=true) (∀H' q xs,a7 H H'->H q=none->H' q=some (.lst (xs.map V.ref))->SM ad H H' xs ((bL 10 ns).dropLast.map kJ)->Q (.ref q) H')
theorem W1:∀ {l:List Nat} {xs:List Addr},xs≠ []->HO.lst (l.map nV)≠HO.lst (xs.map V.ref)
 |_,[],h,_=>h rfl
 |[],x::r,_,e=>by cases e
 |n::l,x::r,_,e=>by cases e
theorem GD(T:Txt K mg ad):cF P w K mg base iC 4 ad.zr ad.zA ["record"] (ab9 ad):=by
 refine T.oP.F.ok qJ (by rintro _ _ _ _ ⟨a,b,rfl,_⟩;rfl) (fun _ A _ s H vs Q E hr h=>?_)
 ·obtain⟨a,ns,rfl,ha,hl,hB,k⟩:=h;have hsl:=split_len 10 ns;refine⟨_,(aJ (bj (si rfl qJ.nd (hJ (qQ uR (bF (KG T) hr.mono rfl T.tX.g T.tX.F.kp T.tX.b .nil bp (af (pv 0) (af (bS rfl T.Aq) ay))) sg (iS (MW FO aS)))) (gZ (N:=["record","line"]) (sc:=aL tH) (own:=[("line",1)]) (by decide+kernel)) (fun _ _ _ _ _=>(cv (i:=1) qJ.nd rfl (be rfl) (jh rfl))) (fun _ _ _ _ _=>jO) (fun _ _ _ _ _=>(bF (KC T) hr.mono rfl T.rQ.g T.rQ.F.kp T.rQ.b .nil bp (af (pv 1) ay)))))),?_⟩;walk_at"";refine⟨a,10,ns,rfl,ha,by omega,fun H1 q ss s1 hn L=>?_⟩;have j1:=AO 10 ns;have Sb:∀x∈(bL 10 ns).dropLast,x.length<=ns.length:=fun x hx=>(l9 10 ns x (S7 _ hx)).1
  have hdl:(bL 10 ns).dropLast.length<=ns.length:=by rw[jj];omega
  walk_at"";refine⟨q,_,rfl,bW.of L.lst,fun p hp=>?_⟩;have Lc:=L.ago j1 hp;have s2:=s1.trans (aP (.lst (qt (ss.map V.ref) none (some (-1)))) hp);generalize upd H1 p (.lst (qt (ss.map V.ref) none (some (-1))))=H2 at Lc s2⊢;generalize (bL 10 ns).dropLast=ls at*;generalize ss.dropLast=ts at*;refine⟨p,rfl,⟨_,bW.of Lc.lst⟩,fun D hD=>?_⟩;refine k5 (xs:=ts.map V.ref) (fun i H'=>∃xs,a7 H2 H'/\H' D=some (.lst (xs.map V.ref))/\SM ad H2 H' xs ((ls.take i).map kJ)) ⟨[],aP _ hD,ak,rfl,fun j x mv h=>by simp at h⟩ (fun i H' _ ⟨_,h,_⟩=>h.seq (bW.of Lc.lst)) ?_ ?_
  ·rintro i x H' hx ⟨xs,s3,mB,C⟩;obtain⟨b,hb,rfl⟩:=get_map hx;have hi:i<ls.length:=by rw[<-Lc.len];exact(aw.mp hb).1
   have hp:=aB hi;have hm:=df hi;have cl:=C.len;rw[ae,bt]at cl;walk_at"";refine⟨rfl,?_⟩;walk_at"";refine oH ?_;walk_at"";refine⟨b,_,rfl,s3 _ _ (Lc.item i b _ hb hp),by have:=Sb _ hm;omega,hB _ hm,fun H4 x dx na ra s4 hx rL pW e1 e2 e3=>⟨_,s4 _ _ mB,zg (by rw[ae];omega),xs++[x],a7.put hD (s3.trans s4),by rw[aF];exact ak,?_⟩⟩;have old:∀ {b o},H' b=none->H4 b=some o->upd H4 D (.lst (xs.map V.ref++[.ref x])) b=some o:=fun{b o} z e=>aX (fun q=>by rw[q,mB]at z;cases z) e
   refine⟨by rw[ai,ae,bt];simp;omega,fun j y mv h1 h2=>?_⟩;rw[take_snoc hp,aF]at h2;by_cases hj:j<xs.length
   ·rw[cG hj]at h1;rw[cG (by rw[ae,bt];omega)]at h2;obtain⟨d',n',r',f1,f2,f3,f4,f5,f6⟩:=C.at_ j y mv h1 h2;have ne:xs≠ []:=fun e=>by rw[e]at hj;exact absurd hj (fc _)
    have nd:∀ {b o},H' b=some o->o≠ .lst (xs.map V.ref)->upd H4 D (.lst (xs.map V.ref++[.ref x])) b=some o:=fun{b o} e ne=>aX (uj e mB ne) (s4 _ _ e)
    exact⟨d',n',r',nd f1 (by intro z;cases z),nd f2 (W1 (l:=[mv.1]) ne),nd f3 (W1 ne),f4,f5,f6⟩
   ·have ej:j=xs.length:=by
     have:=(aw.mp h1).1;rw[ai]at this;simp at this;omega
    have el:xs.length=((ls.take i).map kJ).length:=C.len;subst ej;rw[bY (ao _),hG]at h1;rw[el,bY (ao _),hG]at h2;cases h1;cases h2;exact⟨dx,na,ra,old hx e1,old rL e2,old pW e3,s3.free hx,s3.free rL,s3.free pW⟩
  ·rintro H' ⟨xs,s3,mB,C⟩;rw[ae,Lc.len,bJ]at C;exact k H' D xs (s2.trans s3) (s2.free hD) mB ⟨C.len,fun j x mv h1 h2=>let ⟨d,n,r,e1,e2,e3,e4,e5,e6⟩:=C.at_ j x mv h1 h2;⟨d,n,r,e1,e2,e3,s2.free e4,s2.free e5,s2.free e6⟩⟩
theorem uQ(n:Nat)(t:Table)(x:Nat×List Nat)(l:NL):cg n t (x::l)=if t.setup.seats<=x.1 then .error n else match jg t x.1 x.2 with
  |.ok u=>cg (n+1) u l
  |.error _=>.error n:=by
 rw[cg];rfl
theorem Dm:∀(a b:NL) (n:Nat) (t u:Table),cg n t a=.ok u->cg n t (a++b)=cg (n+a.length) u b
 |[],b,n,t,u,h=>by cases (show Except.ok t=Except.ok u by rw[<-h,cg]);rfl
 |x::a,b,n,t,u,h=>by
  rw[FC,uQ];rw[uQ]at h;by_cases q:t.setup.seats<=x.1
  ·rw[if_pos q]at h;cases h
  ·rw[if_neg q]at h⊢;cases e:jg t x.1 x.2 with
   |error z=>rw[e]at h;cases h
   |ok v=>
    rw[e]at h;rw[az,show n+(a.length+1)=n+1+a.length by omega];exact Dm a b (n+1) v u h
theorem drop_cons{α:Type}{l:List α}{j:Nat}{x:α}(h:l[j]? =some x):l.drop j=x::l.drop (j+1):=by
 obtain⟨h1,h2⟩:=aw.mp h;rw[LO h1,h2]
theorem FR{ms:NL}{b t:Table}{j:Nat}{mv:Nat×List Nat}(h:cg 1 b (ms.take j)=.ok t)(hm:ms[j]? =some mv):cg 1 b ms=if t.setup.seats<=mv.1 then .error (j+1)else match jg t mv.1 mv.2 with
  |.ok u=>cg (j+2) u (ms.drop (j+1))
  |.error _=>.error (j+1):=by
 have hj:=(aw.mp hm).1;have e:=Dm _ (ms.drop j) _ _ _ h;rw[yL,drop_cons hm,bt,mI (by omega),yj]at e;rw[e,uQ]
theorem WH{t:Table}{m:DM}(a:nR t m)(h:Ma.fw t)(i:Nat)(pl:List Nat):
  (kg m (i:Int) (pl.map fun n:Nat=>(n:Int))=0->∃p r,i<m.n/\m.queues i=p::r/\m.round≠m.rounds/\Ma.iQ t p pl/\jg t i pl=.ok (dP t i pl))/\
  (kg m (i:Int) (pl.map fun n:Nat=>(n:Int))≠0->t.setup.seats<=i\/∃e,jg t i pl=.error e):=by
 obtain⟨s1,s2⟩:=CB (s:={table:=t,moves:=[]}) (.inr ⟨h,a⟩) (i:Int) (pl.map fun n:Nat=>(n:Int));have em:(pl.map fun n:Nat=>(n:Int)).map cz=pl:=by
  rw[cO];refine Eq.trans (bU fun n _=>?_) (S0 pl);exact bB n
 rw[em]at s2;refine⟨fun e=>?_,fun e=>?_⟩
 ·obtain⟨p,r,h0,hi,hq,LQ,nn,l3,ok,Nw⟩:=s2 e;refine⟨p,r,hi,hq,LQ,ok,?_⟩;unfold jg;rw[yz a h,decide_eq_false LQ,if_neg (by decide),show bc t i=p::r by rw[<-a.queues];exact hq];dsimp only;rw[Ma.qf.mpr ok,if_neg (by decide)]
 ·apply bZ
  intro no;rw[not_or]at no;have hi:i<t.setup.seats:=by omega
  cases hp:jg t i pl with
  |error z=>exact no.2 ⟨z,hp⟩
  |ok u=>
   obtain⟨ho,p,r,hq,ok,rfl⟩:=Ma.uf h hi hp;have h8:=h.su.seats.2;have Vl:p∈bc t i:=by rw[hq];exact ah
   have psz:=Ma.u5 h hi Vl;have s20:Ma.size t<=20:=h.su.Ku.2;have hl:pl.length<=3:=by
    rw[ok.len];have:=h.su.takes.2;unfold HM;omega
   have Nw:=s1 e;have hg:aU {table:=t,moves:=[]} (.pick (i:Int) (pl.map fun n:Nat=>(n:Int)))=gP {table:=t,moves:=[]} i pl:=by
    have Nw:∀(s:dQ) (i:Int) (l:List Int),aU s (.pick i l)=bI s [(-1,!(bf i 0 7&&(decide (l.length<=3)&&l.all fun k=>bf k 0 19))),iH s i] (fun _=>gP s i.toNat (l.map cz)):=fun _ _ _=>rfl
    rw[Nw];have e1:bf (i:Int) 0 7=true:=Ma.gj.mpr ⟨by omega,by omega⟩;have e2:((pl.map fun n:Nat=>(n:Int)).all fun k=>bf k 0 19)=true:=by
     rw[bD];intro z hz;obtain⟨n,hn,rfl⟩:=bh.mp hz;have:=ok.lt n hn;exact Ma.gj.mpr ⟨by omega,by omega⟩
    have e3:decide (((t.setup.seats:Nat):Int)<=(i:Int))=false:=decide_eq_false (by omega);rw[e1,e2,decide_eq_true (show(pl.map fun n:Nat=>(n:Int)).length<=3 by rw[ae];exact hl)];unfold bI iH;rw[e3];show gP _ (i:Int).toNat ((pl.map fun n:Nat=>(n:Int)).map cz)=_;rw[em,bB]
   rw[hg]at Nw;unfold gP at Nw;rw[hp]at Nw;have:=congrArg (fun z=>z.2.head?) Nw;exact e (ax this).symm
theorem kD(n:Nat)(i:Int):cS n i<=0:=by unfold cS;repeat' split<;>first|decide|omega
theorem PU(x k:Int)(n:Nat):qr x k n<=0:=by unfold qr;repeat' split<;>first|decide|omega
theorem IG(m:DM)(i:Int):jN m i<=0:=by
 unfold jN;split
 ·decide
 ·exact kD _ _
theorem G3(m:DM)(i:Int):fH m i<=0:=by
 unfold fH;split
 ·decide
 ·exact IG _ _
theorem Gx(m:DM)(i:Int)(l:List Int):kg m i l<=0:=by
 unfold kg;split
 ·split
  ·decide
  ·exact G3 _ _
 ·decide
structure uE(ad:Ad)(z0 H0 HC:Hp)(O:Addr->Prop)(X:Addr)(t:Table)(ms:NL)(H:Hp)(g:Gh)(m:DM):Prop where
 rep:Rep ad g m H
 pk:vW m
 tok:Ma.fw t
 ab:nR t m
 pc:m.picks=ms
 zs:a7 z0 g.z
 kp:∀b o,HC b=some o->O b->H b=some o/\Out g m b
 nw:∀r,iG m r->H0 (g r)=none
 zn:∀b,g.z b≠none->z0 b≠none\/H0 b=none
 sm:a7 H0 H
 dr:g .dr=X
theorem uE.same{ad:Ad}{z0 H0 HC:Hp}{O:Addr->Prop}{X:Addr}{t:Table}{ms:NL}{H H':Hp}{g:Gh}{m:DM}(d:uE ad z0 H0 HC O X t ms H g m)(s:a7 H H'):uE ad z0 H0 HC O X t ms H' g m:=
 ⟨d.rep.same s,d.pk,d.tok,d.ab,d.pc,d.zs,fun b o e h=>⟨s _ _ (d.kp b o e h).1,(d.kp b o e h).2⟩,d.nw,d.zn,d.sm.trans s,d.dr⟩
theorem uE.aez{ad:Ad}{z0 H0 HC:Hp}{O:Addr->Prop}{X:Addr}{t:Table}{ms:NL}{H H':Hp}{g g1 g':Gh}{m:DM}{i:Nat}{p:bA}{r:List bA}{pl:List Nat}(d:uE ad z0 H0 HC O X t ms H g m)(tk:LA t m i p r pl)(e1:g1.to=g.to)(zs1:a7 g.z g1.z)(z1:∀b,g1.z b≠none->g.z b≠none\/H0 b=none)
  (R:Rep ad g' (lN (gN m i p r pl)) H')(f:Fr g1 m H g' (lN (gN m i p r pl)) H')(ed:g' .dr=g1 .dr):uE ad z0 H0 HC O X (dP t i pl) (ms++[(i,pl)]) H' g' (lN (gN m i p r pl)):=by
 have oe:∀ {b},Out g m b->Out g1 m b:=fun{b} h r hr q=>h r hr (by rw[<-e1];exact q)
 have nw1:∀r,iG m r->H0 (g1 r)=none:=fun r hr=>by rw[show g1 r=g r by rw[e1]];exact d.nw r hr
 refine⟨R,tk.pk,tk.tab,tk.abs,by rw[FU,d.pc],(d.zs.trans zs1).trans f.zs,fun b o e h=>?_,fun rr hr=>?_,fun b h=>?_,fun b o e=>?_,by rw[ed,e1];exact d.dr⟩
 ·obtain⟨k1,k2⟩:=d.kp b o e h;exact⟨f.out _ _ k1 (oe k2),f.outs k1 (oe k2)⟩
 ·rcases f.new rr hr with ⟨h1,h2⟩|h2|⟨r0,h1,h2⟩
  ·rw[h2];exact nw1 _ h1
  ·exact d.sm.free h2
  ·rw[h2];exact nw1 _ h1
 ·rcases f.zn b h with h|h
  ·rcases z1 b h with h|h
   ·exact d.zn b h
   ·exact .inr h
  ·exact .inr (d.sm.free h)
 ·exact f.out _ _ (d.sm _ _ e) fun r hr q=>by have:=nw1 r hr;rw[q,e]at this;cases this
theorem uE.done{ad:Ad}{s:dQ}{l dl:Addr}{F:Addr->Prop}{g g':Gh}{m m':DM}{H HC H':Hp}{O:Addr->Prop}{X:Addr}{t:Table}{ms:NL}(d:uE ad g.z H HC O X t ms H' g' m')(sx:yT ad s H l F g m)(hl:H l=some (.ins ad.jy dl [("draft",.ref (g .dr))]))(Y:Addr->Prop):
  yT ad {table:=t,moves:=ms} (upd H' l (.ins ad.jy dl [("draft",.ref X)])) l (foot g' m' l) g' m'/\Keeps Y F H (foot g' m' l) (upd H' l (.ins ad.jy dl [("draft",.ref X)])):=by
 have ol:Out g' m' l:=fun rr Ny e=>by have:=d.nw rr Ny;rw[e,hl]at this;cases this
 have zl:g'.z l=none:=by
  cases e:g'.z l with
  |none=>rfl
  |some o=>
   rcases d.zn l (by rw[e];simp)with h|h
   ·exact absurd sx.zl h
   ·rw[hl]at h;cases h
 refine M7 (s':={table:=t,moves:=ms}) Y sx (dl:=dl) (by rw[d.dr];exact ak) (d.rep.keep (fun rr Ny o e=>aX (ol rr Ny) e) (fun b o e1 e2=>aX (fun q=>by rw[q,zl]at e1;cases e1) e2)) d.pk d.pc (.inr ⟨d.tok,d.ab⟩) d.nw d.zn fun b o e hb=>aX hb (d.sm _ _ e)
theorem Mx{ad:Ad}{t:Table}{m:DM}{Z:Hp}{su:Addr}(a:nR t m)(h:Ma.fw t)(S:lb ad Z su m):lb ad Z su (Li t.setup):=by
 obtain⟨dx,ra,ka,sa,ss,h1,h2,h3,h4⟩:=S;refine⟨dx,ra,ka,sa,ss,?_,?_,?_,?_⟩
 ·have e:suF m ra ka sa=suF (Li t.setup) ra ka sa:=by
   unfold suF;rw[a.n,a.takes,a.rounds];rfl
  rw[<-e];exact h1
 ·rw[a.recipe]at h2;exact h2
 ·rw[a.kinds]at h3;exact h3
 ·rw[a.sheets,h.sh]at h4;exact h4
theorem uE.made{ad:Ad}{z0 H0 H1 H':Hp}{X:Addr}{S:iy}{g:Gh}(su:Ma.gT S)(h01:a7 H0 H1){dx:Addr}(hX:H1 X=none)(hd:H1 dx=none)(R:Rep ad g (gO (Li S) S.seats) H')(eX:g .dr=X)(zs:a7 z0 g.z)(b:ye X (upd (upd H1 dx (.own X)) X (.ins ad.dC dx [])) H')
  (hf:∀r,iG (gO (Li S) S.seats) r->g r=X\/upd (upd H1 dx (.own X)) X (.ins ad.dC dx []) (g r)=none)(zn:∀b,g.z b≠none->z0 b≠none\/upd (upd H1 dx (.own X)) X (.ins ad.dC dx []) b=none):
  a7 H1 H'/\uE ad z0 H0 H' (Out g (gO (Li S) S.seats)) X (cD S) [] H' g (gO (Li S) S.seats):=by
 have Mc:a7 H1 (upd (upd H1 dx (.own X)) X (.ins ad.dC dx [])):=fun b o e=>aX (aR e hX) (bq hd e)
 have s1:a7 H1 H':=fun y o e=>b _ _ (Mc _ _ e) (aR e hX)
 obtain⟨tk,ab,pk,pc⟩:=JK su;refine⟨s1,R,pk,tk,ab,pc,zs,fun b o e h=>⟨e,h⟩,fun r hr=>?_,fun b h=>?_,h01.trans s1,eX⟩
 ·rcases hf r hr with h|h
  ·rw[h];exact h01.free hX
  ·exact h01.free (Mc.free h)
 ·rcases zn b h with h|h
  ·exact .inl h
  ·exact .inr (h01.free (Mc.free h))
theorem uE.from{ad:Ad}{z0 H0 HC HC':Hp}{O O':Addr->Prop}{X:Addr}{t:Table}{ms:NL}{H:Hp}{g:Gh}{m:DM}(d:uE ad z0 H0 HC O X t ms H g m)(k:∀b o,HC' b=some o->O' b->H b=some o/\Out g m b):uE ad z0 H0 HC' O' X t ms H g m:=
 ⟨d.rep,d.pk,d.tok,d.ab,d.pc,d.zs,k,d.nw,d.zn,d.sm,d.dr⟩
def V3(ad:Ad):Sp:=fun vs H Q _=>E5 fun(su a:Addr) (z0:Hp) (S:iy) (as:List Addr)=>E2 fun(ms:NL) (t:Table)=>A8 (vs=[.ref su,.ref a]) (a7 z0 H) (lb ad z0 su (Li S)) (Ma.gT S) (H a=some (.lst (as.map V.ref))) (kj z0 as ms) (cg 1 (cD S) ms=.ok t) (∀H' HC O X g m,uE ad z0 H HC O X t ms H' g m->Q (.ref X) H')
theorem IC{S:iy}(su:Ma.gT S){ms:NL}{t:Table}(h:cg 1 (cD S) ms=.ok t):ms.length<=640:=by
 have b:=Ma.zG su;have hs:0<({table:=cD S}:dQ).table.setup.seats:=by
  show 0<(cD S).setup.seats;rw[(Ma.rq su).2.1];have:=su.seats.1;omega
 have e:(cD S).setup=S:=(Ma.rq su).2.1;exact(Ma.zL (s:={table:=cD S}) b hs (ms:=ms) (t:=t) (by show cg 1 (cD (cD S).setup) ms=_;rw[e];exact h)).xi.1
theorem T7(T:Txt K mg ad):cF P w K mg base iC 8 ad.NS ad.N3 ["setup","picks"] (V3 ad):=by
 refine T.AH.F.ok yt (by rintro _ _ _ _ ⟨su,a,z0,S,as,ms,t,rfl,_⟩;rfl) (fun _ A _ s H vs Q E hr h=>?_)
 ·obtain⟨U,a,z0,S,as,ms,t,rfl,hz,SA,su,ha,pa,hth,k⟩:=h;have VD:∀ {b},H b=none->z0 b=none:=fun{b} h=>by
   cases e:z0 b with
   |none=>rfl
   |some o=>rw[hz _ _ e]at h;cases h
  refine⟨_,(aC (cf (i:=2) yt.nd rfl (be rfl) (lT T.iu.m (oV T) hr.mono rfl T.Bk T.iu.b .nil bp (af (pv 0) ay)))
   (aC (jP ck rfl (hJ (pv 1)) (tI rfl (fR (cv (i:=3) yt.nd rfl (be rfl)) (fR (cv (i:=4) yt.nd rfl (be rfl)) oT)))
   (aJ (eu (gg (pv 2) T.a6 T.ir.m (oU T) hr.mono T.ir.b .nil bp (af (pv 3) (af (pv 4) ay))))))
   (aJ (bj (pv 2))))),?_⟩
  walk_at"";intro X DX hX hDX afE;have Mc:a7 H (upd (upd H DX (.own X)) X (.ins ad.dC DX [])):=fun b o e=>aX (aR e hX) (bq hDX e)
  refine⟨X,DX,U,z0,S.seats,S.takes,S.rounds,S.recipe,S.kinds,gU S,rfl,ak,hz.trans Mc,VD hX,SA,su.seats.2,by rw[Ma.jR];decide,fun _=>A0 su,fun H1 g1 R1 eX zs1 b1 hf1 zn1=>⟨rfl,?_⟩⟩;obtain⟨s1,D1⟩:=uE.made (H0:=H) su (a7.refl H) hX hDX R1 eX zs1 b1 hf1 zn1;generalize gO (Li S) S.seats=m1 at D1;walk_at"";refine⟨_,rfl,⟨_,bW.of (s1 _ _ ha)⟩,?_⟩;refine qZ (xs:=as.map V.ref) (fun j σ H'=>∃(v3 v4:Option V) (t:Table) (g:Gh) (m:DM),σ=[some (.ref U),some (.ref a),some (.ref X),v3,v4]/\uE ad z0 H H1 (Out g1 m1) X t (ms.take j) H' g m/\cg 1 (cD S) (ms.take j)=.ok t)
   ⟨none,none,_,g1,m1,rfl,D1,rfl⟩ (fun j σ H' _ ⟨_,_,_,_,_,_,d,_⟩=>d.sm.seq (bW.of ha)) ?_ ?_
  ·rintro j y σ H' hy ⟨v3,v4,tj,g,m,rfl,d,hj⟩;obtain⟨c,hc,rfl⟩:=get_map hy;obtain⟨mv,hm,b,e1,e2⟩:=DE pa hc;have Qk:j<ms.length:=(aw.mp hm).1;have e1':=d.rep.zs _ _ (d.zs _ _ e1);have e2':=d.zs _ _ e2;have Jt:=FR hj hm;rw[hth]at Jt;have hi:¬tj.setup.seats<=mv.1:=fun q=>by rw[if_pos q]at Jt;cases Jt
   rw[if_neg hi]at Jt;cases hp:jg tj mv.1 mv.2 with
   |error z=>rw[hp]at Jt;cases Jt
   |ok u=>
    have hi:mv.1<tj.setup.seats:=by omega
    obtain⟨ho,p,r,hq,ok,rfl⟩:=Ma.uf d.tok hi hp;have tk:=E8 d.ab d.tok d.pk ho hi hq ok;have hj2:cg 1 (cD S) (ms.take (j+1))=.ok (dP tj mv.1 mv.2):=by
     rw[take_snoc hm];exact Ma.qa _ _ _ _ _ _ hj hi hp
    have hml:m.picks.length<=1000:=by rw[d.pc];have:=IC su hj;omega
    obtain⟨dd,su',qz,_⟩:=d.rep.gk;have hdX:=qz;rw[d.dr]at hdX;refine zj (wa.of e1') rfl ?_;walk_at"";refine⟨_,dd,_,rfl,hdX,rfl,?_⟩;walk_at"";refine⟨g,m,mv.1,p,r,b,mv.2,by rw[d.dr];rfl,d.rep,d.pk.rN,tk.hi,tk.hq,tk.sm,e2',hml,tk.rd,tk.c3,tk.lt,tk.Of,tk.pool,tk.fl,tk.oi,tk.n8,tk.s5,fun H3 g3 q3 R3 F3 ed vT vS oq3=>?_⟩;refine⟨_,_,_,g3,lN (gN m mv.1 p r mv.2),rfl,?_,hj2⟩;rw[take_snoc hm];exact d.aez tk rfl (a7.refl _) (fun b h=>.inl h) R3 F3 ed
  ·rintro σ H' ⟨v3,v4,tj,g,m,rfl,d,hj⟩;have el:as.length=ms.length:=Paired.len pa;rw[ae,el,bJ]at d hj;rw[hj]at hth;cases hth;walk_at"";exact k H' _ _ X g m d
theorem U2{s:dQ}{m:DM}(ok:Ma.jm s)(pc:m.picks=s.moves){n:Int}(h:qu m n=0):1<=n/\n.toNat<=s.moves.length/\0<s.table.setup.seats/\∃t,cg 1 (cD s.table.setup) (s.moves.take (s.moves.length-n.toNat))=.ok t/\
  aU s (.back n)=({table:=t,moves:=s.moves.take (s.moves.length-n.toNat)},[0,((s.moves.length-n.toNat:Nat):Int)]):=by
 unfold qu at h;split at h
 ·rename_i e;split at h
  ·cases h
  ·rename_i e2;have:=Ma.gj.mp e;rw[pc]at e2;have h1:0<s.moves.length:=by omega
   have hs:0<s.table.setup.seats:=by
    rcases ok.tab with ⟨_,q⟩|⟨q,_⟩
    ·rw[q]at h1;exact absurd h1 (et _)
    ·have:=q.su.seats.1;omega
   obtain⟨t,ht⟩:=ok.aaJ hs (s.moves.length-n.toNat);refine⟨this.1,by omega,hs,t,ht,?_⟩;show bI s [(-1,!bf n 1 1000),(-5,decide ((s.moves.length:Int)<n))] (fun _=>match cg 1 (cD s.table.setup) (s.moves.take (s.moves.length-n.toNat))with
    |.ok t=>({table:=t,moves:=s.moves.take (s.moves.length-n.toNat)},[0,(((s.moves.take (s.moves.length-n.toNat)).length:Nat):Int)])
    |.error _=>(s,[-5]))=_
   rw[show bf n 1 1000=true from e,decide_eq_false e2,ht,bt,mI (by omega)];rfl
 ·cases h
theorem Yc{xs:List V}{k:Int}(h0:0<=k):qt xs none (some k)=xs.take k.toNat:=by
 unfold qt;obtain⟨n,rfl⟩:∃n:Nat,k=(n:Int):=⟨k.toNat,by omega⟩;have e0:HT.HK xs.length 0 none=0:=rfl;rw[HT.Fd,e0,List.drop_zero,Nat.sub_zero,bB];by_cases h:n<=xs.length
 ·rw[mI h]
 ·rw[Nat.min_eq_right (by omega),og (ao _),og (by omega)]
theorem kj.take{Z:Hp}{as:List Addr}{l:NL}(h:kj Z as l):∀k,kj Z (as.take k) (l.take k):=by
 induction h with
 |nil=>intro k;rw[List.take_nil,List.take_nil];exact .nil
 |cons r _ ih=>
  intro k;cases k with
  |zero=>exact .nil
  |succ k=>exact .cons r (ih k)
theorem ZR(T:Txt K mg ad):cF P w K mg base iC 9 ad.Lf ad.Ya ["line","call"] (jM ad 15):=by
 refine T.O1.F.ok Kj (by rintro _ _ _ _ ⟨l,x,dc,na,ra,F,s,a,r,c,d,g,m,rfl,_⟩;rfl) (fun _ A _ s H vs Q E hr h=>?_)
 ·obtain⟨l,x,dc,na,ra,F,st,a,ns,c,d,g,m,rfl,ci,rf,k⟩:=h;obtain⟨n,rfl⟩:=fj ci.f rfl;cases (show some (OC n)=some d from ci.hd);have sx:=ci.sx;obtain⟨dl,hl⟩:=sx.line;obtain⟨dd,U,qz,SU⟩:=sx.rep.gk;obtain⟨as,K1,pa⟩:=sx.rep.picks;rw[sx.pc]at pa;have el:as.length=st.moves.length:=Paired.len pa;obtain⟨n1,nl,hs,t,hth,dB⟩:=U2 (n:=n) ci.ok sx.pc rf;obtain⟨tok,ab⟩:=mU sx.tab (by rw[tZ sx.tab];exact hs);refine⟨_,(aC (cf (i:=2) Kj.nd rfl (be rfl) (aQ (aQ (pv 0) rfl) rfl))
   (aC (cf (i:=3) Kj.nd rfl (be rfl) (qQ uR (pv 2) sg (iS (gF CK (bH bg (by rfl) T.jx aV (af (pv 2) ay)) (eB cj (aQ (pv 1) rfl) aS (fun _ _=>rfl))))))
   (aC (eR (pv 0) (bF (T7 T) hr.mono rfl T.AH.g T.AH.F.kp T.AH.b .nil bp (af (aQ (aQ (pv 0) rfl) rfl) (af (pv 3) ay))) rfl)
   (aJ (bj (fg (af (bH bg (by rfl) T.jx aV (af (pv 3) ay)) ay))))))),?_⟩
  walk_at"";refine⟨_,_,dl,_,_,rfl,hl,T.e8,T.bP,rfl,?_⟩;refine⟨_,_,dd,_,_,rfl,qz,T.a6,T.je,rfl,?_⟩;walk_at"";refine⟨_,_,rfl,.inl (bW.of K1),?_⟩;rw[ae,el];walk_at"";refine⟨_,_,dc,_,_,rfl,ci.hx,T.dW,T.cX,rfl,?_⟩;walk_at"";refine eO (bW.of ci.rL) (lX (ao _)) ?_;walk_at"";refine⟨_,_,rfl,bW.of K1,fun q hq=>?_⟩;have en:(((st.moves.length:Nat):Int)-gL [n]).toNat=st.moves.length-n.toNat:=by show(((st.moves.length:Nat):Int)-n).toNat=_;omega
  rw[Yc (by show 0<=((st.moves.length:Nat):Int)-n;omega),en,<-List.map_take];have hkk:st.moves.length-n.toNat<=st.moves.length:=Nat.sub_le _ _;generalize st.moves.length-n.toNat=kk at*;have s1:=aP (.lst ((as.take kk).map V.ref)) hq;have hqv:upd H q (.lst ((as.take kk).map V.ref)) q=_:=ak;generalize upd H q (.lst ((as.take kk).map V.ref))=H1 at s1 hqv⊢;walk_at"";refine⟨_,_,dl,_,_,rfl,s1 _ _ hl,T.e8,T.bP,rfl,?_⟩;refine⟨_,_,dd,_,_,rfl,s1 _ _ qz,T.a6,T.f9,rfl,?_⟩;walk_at"";refine⟨U,q,g.z,st.table.setup,as.take kk,st.moves.take kk,t,rfl,sx.rep.zs.trans s1,Mx ab tok SU,tok.su,hqv,kj.take pa kk,hth,fun H2 HC O X g2 m2 d=>?_⟩;have d0:uE ad g.z H HC O X t (st.moves.take kk) H2 g2 m2:=⟨d.rep,d.pk,d.tok,d.ab,d.pc,d.zs,d.kp,fun r hr=>s1.free (d.nw r hr),fun b h=>(d.zn b h).imp_right s1.free,s1.trans d.sm,d.dr⟩;obtain⟨S3,K3⟩:=d0.done sx hl (fun b=>b=ra);walk_at"";refine⟨l,_,dl,_,rfl,d0.sm _ _ hl,T.e8,T.bP,(by show 1<1000;decide),?_⟩;have ef:pL "draft" (V.ref X) [("draft",V.ref (g .dr))]=([("draft",V.ref X)]:List (Str×V)):=rfl;rw[ef];have vT:upd H2 l (.ins ad.jy dl [("draft",V.ref X)]) q=some (.lst ((as.take kk).map V.ref)):=aX (fun e=>by rw[e,hl]at hq;cases hq) (d.sm _ _ hqv);generalize upd H2 l (.ins ad.jy dl [("draft",V.ref X)])=H3 at S3 K3 vT⊢;walk_at"";refine⟨q,_,rfl,.inl (bW.of vT),?_⟩;walk_at"";refine⟨by show 1<=sizeLine;decide,fun z hz=>?_⟩;have sz:=aP (.lst [V.int (((as.take kk).map V.ref).length:Nat)]) hz;refine k _ _ z [((kk:Nat):Int)] ?_ (K3.same sz) (by rw[dB]) ?_
  ·rw[dB];exact⟨g2,m2,S3.same sz⟩
  ·rw[ak,ae,bt,el,mI hkk];rfl
theorem IL{m:DM}{r:List Int}(h:j3 m r=0):r.length<=20000/\(r.all fun n=>bf n 0 255)=true/\m.n≠0:=by
 unfold j3 at h;split at h
 ·rename_i e;split at h
  ·cases h
  ·rename_i e2;exact⟨e.1,e.2,e2⟩
 ·cases h
theorem MK{s:dQ}{m:DM}(hn:m.n=s.table.setup.seats){r:List Int}(h:j3 m r=0):aU s (.replay r)=if ib 1 (bL 10 (r.map cz))=0 then
  (match cg 1 (cD s.table.setup) ((bL 10 (r.map cz)).dropLast.map kJ)with
   |.error n=>(s,[0,2,(n:Int)])
   |.ok t=>({table:=t,moves:=(bL 10 (r.map cz)).dropLast.map kJ},[0,0]))else(s,[0,1,((ib 1 (bL 10 (r.map cz)):Nat):Int)]):=by
 obtain⟨h1,h2,h3⟩:=IL h;show bI s [(-1,!(decide (r.length<=20000)&&r.all fun n=>bf n 0 255)),(-2,s.table.setup.seats==0)] (fun _=>match Vbdcaq.readMoves 1 (bL 10 (r.map cz))with
   |.error n=>(s,[0,1,(n:Int)])
   |.ok ms=>match cg 1 (cD s.table.setup) ms with
    |.error n=>(s,[0,2,(n:Int)])
    |.ok t=>({table:=t,moves:=ms},[0,0]))=_
 rw[decide_eq_true h1,h2,AZ _ 1 (by decide)];have e:(s.table.setup.seats==0)=false:=by rw[<-hn];exact beq_eq_false_iff_ne.mpr h3
 rw[e];by_cases w:ib 1 (bL 10 (r.map cz))=0
 ·rw[if_pos w,if_pos w];rfl
 ·rw[if_neg w,if_neg w];rfl
theorem FJ:∀(ls:List (List Nat)) (n:Nat),0<n->ib n ls=0->∀l∈ls.dropLast,lL l=true
 |[],n,_,_,l,h=>by cases h
 |[x],n,_,_,l,h=>by cases h
 |x::y::r,n,hn,h,l,hl=>by
  have e:ib n (x::y::r)=if lL x=true then ib (n+1) (y::r)else n:=rfl
  rw[e]at h;by_cases q:lL x=true
  ·rw[if_pos q]at h;rcases aM.mp (show l∈x::(y::r).dropLast from hl)with rfl|hl
   ·exact q
   ·exact FJ (y::r) (n+1) (by omega) h l hl
  ·rw[if_neg q]at h;omega
theorem T5(T:Txt K mg ad):cF P w K mg base iC 9 ad.Bu ad.N1 ["line","call"] (jM ad 14):=by
 refine T.FG.F.ok t9 (by rintro _ _ _ _ ⟨l,x,dc,na,ra,F,s,a,r,c,d,g,m,rfl,_⟩;rfl) (fun _ A _ s H vs Q E hr h=>?_)
 ·obtain⟨l,x,dc,na,ra,F,st,a,ns,c,d,g,m,rfl,ci,rf,k⟩:=h;have ha:a=[]:=fD ci.f.len;subst ha;cases (show some (LG ns)=some d from ci.hd);have sx:=ci.sx;obtain⟨dl,hl⟩:=sx.line;obtain⟨dd,U,qz,SU⟩:=sx.rep.gk;have dB:=MK (tZ sx.tab) rf;obtain⟨r1,r2,r3⟩:=IL rf;obtain⟨tok,ab⟩:=mU sx.tab (by omega);have nn:∀z∈ns,0<=z:=fun z hz=>(Ma.gj.mp (bD.mp r2 z hz)).1
  have pW:=ci.pW;rw[W6 nn]at pW;have hln:(ns.map cz).length<=80000:=by rw[ae];omega
  generalize ns.map cz=bs at*;have hz:=sx.rep.zs;have VD:∀ {b},H b=none->g.z b=none:=fun{b} h=>sx.rep.zn h
  have su:=tok.su;refine⟨_,(aC (cf (i:=2) t9.nd rfl (be rfl) (bF (yP T) hr.mono rfl T.jL.g T.jL.F.kp T.jL.b .nil bp (af (aQ (pv 1) rfl) ay)))
   (aC (i6 (eP zc (pv 2) aS (fP _))
   (aJ (bj (fg (af aS (af (pv 2) ay)))))
   eZ)
   (aC (cf (i:=3) t9.nd rfl (be rfl) (lT T.iu.m (oV T) hr.mono rfl T.Bk T.iu.b .nil bp (af (aQ (aQ (pv 0) rfl) rfl) ay)))
   (aC (jP ck rfl (MV rfl T.mr (af (bF (GD T) hr.mono rfl T.oP.g T.oP.F.kp T.oP.b .nil bp (af (aQ (pv 1) rfl) ay)) ay)) (tI rfl (fR (cv (i:=4) t9.nd rfl (be rfl)) (fR (cv (i:=5) t9.nd rfl (be rfl)) oT)))
   (aC (i6 (eP RI (bF (zd T) hr.mono rfl T.jK.g T.jK.F.kp T.jK.b .nil bp (af (pv 3) (af (pv 5) ay))) aS (fP _))
   (aJ (bj (fg (af aS (af (pv 4) ay)))))
   eZ)
   (aJ (eu (gg (pv 3) T.a6 T.ir.m (oU T) hr.mono T.ir.b .nil bp (af (eB cj (aQ (pv 5) rfl) aS (fun _ _=>rfl)) (af (aQ (pv 5) rfl) ay)))))))
   (aC (eR (pv 0) (pv 3) rfl)
   (aJ (bj (fg (af aS ay))))))))),?_⟩
  walk_at"";refine⟨_,_,dc,_,_,rfl,ci.hx,T.dW,T.gI,rfl,?_⟩;walk_at"";refine⟨ra,bs,rfl,pW,hln,fun H1 s1=>?_⟩;walk_at"";refine ik (fun c1=>?_) fun c1=>?_
  ·have c1:¬ib 1 (bL 10 bs)=0:=by have:=of_decide_eq_true c1;omega
   rw[if_neg c1]at dB;walk_at"";refine⟨by show 2<=sizeLine;decide,fun q hq=>?_⟩;exact ci.tells (ans:=[1,((ib 1 (bL 10 bs):Nat):Int)]) k dB (s1.trans (aP _ hq)) ak
  ·have c1:ib 1 (bL 10 bs)=0:=by
    apply bZ
    intro q;exact c1 (decide_eq_true (by omega))
   rw[if_pos c1]at dB;have Xx:=FJ _ 1 (by decide) c1;have hlen:((bL 10 bs).dropLast.map kJ).length<=80000:=by
    rw[ae,jj];have:=split_len 10 bs;omega
   have hms:∀mv∈(bL 10 bs).dropLast.map kJ,mv.2.length<=3:=fun mv h=>by
    obtain⟨y,hy,rfl⟩:=bh.mp h;exact(RO (Xx y hy)).2.2.1
   walk_at"";refine⟨_,_,dl,_,_,rfl,s1 _ _ hl,T.e8,T.bP,rfl,?_⟩;refine⟨_,_,dd,_,_,rfl,s1 _ _ qz,T.a6,T.f9,rfl,?_⟩;walk_at"";intro X DX hX hDX afE;have Mc:a7 H1 (upd (upd H1 DX (.own X)) X (.ins ad.dC DX [])):=fun b o e=>aX (aR e hX) (bq hDX e)
   refine⟨X,DX,U,g.z,st.table.setup.seats,st.table.setup.takes,st.table.setup.rounds,st.table.setup.recipe,st.table.setup.kinds,gU st.table.setup,rfl,ak,(hz.trans s1).trans Mc,VD (s1.free hX),Mx ab tok SU,su.seats.2,by rw[Ma.jR];decide,fun _=>A0 su,fun H2 g1 R1 eX zs1 b1 hf1 zn1=>⟨rfl,?_⟩⟩;obtain⟨s2,D1⟩:=uE.made (H0:=H) su s1 hX hDX R1 eX zs1 b1 hf1 zn1;generalize gO (Li st.table.setup) st.table.setup.seats=m1 at D1;have IJ:=s1.trans s2;clear R1 eX zs1 b1 hf1 zn1;walk_at"";refine NJ ?_;walk_at"";refine⟨_,_,dc,_,_,rfl,IJ _ _ ci.hx,T.dW,T.gI,rfl,?_⟩;walk_at"";refine⟨ra,bs,rfl,IJ _ _ pW,hln,Xx,fun H3 q xs s3 hq lU CA=>?_⟩;have D3:uE ad g.z H H3 (Out g1 m1) X (cD st.table.setup) [] H3 g1 m1:=(D1.same s3).from fun b o e h=>⟨e,h⟩
   have oq:Out g1 m1 q:=D1.rep.out hq;generalize (bL 10 bs).dropLast.map kJ=ms at*;walk_at"";refine⟨q,_,rfl,bW.of lU,?_⟩;refine Jz (xs:=xs.map V.ref) (fun j σ H'=>∃(v4 v5:Option V) (t:Table) (g2:Gh) (m2:DM),σ=[some (.ref l),some (.ref x),some (.int ((ib 1 (bL 10 bs):Nat):Int)),some (.ref X),v4,v5]/\uE ad g.z H H3 (Out g1 m1) X t (ms.take j) H' g2 m2/\cg 1 (cD st.table.setup) (ms.take j)=.ok t)
    ⟨none,none,_,g1,m1,rfl,D3,rfl⟩ (fun j σ H' _ ⟨_,_,_,_,_,_,d,_⟩=>bW.of (d.kp _ _ lU oq).1) ?_ ?_
   ·rintro j y σ H' tt hy ⟨v4,v5,tj,g2,m2,rfl,d,hj⟩ htt;obtain⟨cx,hc,rfl⟩:=get_map hy;have Qk:j<ms.length:=by rw[<-CA.len];exact(aw.mp hc).1
    have hm:=aB Qk;generalize ms[j]=mv at hm;obtain⟨dc',na',ra',f1,f2,f3,f4,f5,f6⟩:=CA.at_ j cx mv hc hm;have d4:=d.same (aP (.tup [.int ((j+1:Nat):Int),.ref cx]) htt);refine zj (wa.of ak) rfl ?_;generalize upd H' tt (.tup [.int ((j+1:Nat):Int),.ref cx])=H4 at d4⊢;clear d htt;have hml:=hms mv (bC hm);have cat:vm ad H4 cx 1 [((mv.1:Nat):Int)] (mv.2.map fun n:Nat=>(n:Int)):=⟨dc',na',ra',(d4.kp _ _ f1 (D1.rep.out f4)).1,(d4.kp _ _ f2 (D1.rep.out f5)).1,by rw[<-nVI];exact(d4.kp _ _ f3 (D1.rep.out f6)).1⟩;obtain⟨t1,t2⟩:=WH d4.ab d4.tok mv.1 mv.2;have Jt:=FR hj hm;walk_at"";refine⟨1,by decide,g2,m2,cx,_,_,by rw[d4.dr];rfl,d4.rep,cat,Wv (s:={table:=tj,moves:=[]}) (.inr ⟨d4.tok,d4.ab⟩) d4.pk (by rw[ae];omega),rfl,fun H5 s5=>?_⟩;have d5:=d4.same s5;have er:refOf m2 1 [((mv.1:Nat):Int)] (mv.2.map fun n:Nat=>(n:Int))=kg m2 ((mv.1:Nat):Int) (mv.2.map fun n:Nat=>(n:Int)):=rfl;rw[er];have hle:=Gx m2 ((mv.1:Nat):Int) (mv.2.map fun n:Nat=>(n:Int));walk_at"";refine ik (fun c2=>?_) fun c2=>?_
    ·have c2:kg m2 ((mv.1:Nat):Int) (mv.2.map fun n:Nat=>(n:Int))≠0:=by have:=of_decide_eq_true c2;omega
     have hth:cg 1 (cD st.table.setup) ms=.error (j+1):=by
      rw[Jt];rcases t2 c2 with h|⟨e,h⟩
      ·rw[if_pos h]
      ·rw[h];split<;>rfl
     rw[hth]at dB;walk_at"";refine⟨by show 2<=sizeLine;decide,fun q hq=>?_⟩;exact ci.tells (ans:=[2,((j+1:Nat):Int)]) k dB (d5.sm.trans (aP _ hq)) ak
    ·have c2:kg m2 ((mv.1:Nat):Int) (mv.2.map fun n:Nat=>(n:Int))=0:=by
      apply bZ
      intro q;exact c2 (decide_eq_true (by omega))
     obtain⟨p,r,hi,uH,LQ,ok,hp⟩:=t1 c2;have ho:kP tj=false:=by rw[yz d5.ab d5.tok,decide_eq_false LQ]
     have vV:mv.1<tj.setup.seats:=by rw[<-d5.ab.n];exact hi
     have tk:=E8 d5.ab d5.tok d5.pk ho vV (by rw[<-d5.ab.queues];exact uH) ok;have hj2:cg 1 (cD st.table.setup) (ms.take (j+1))=.ok (dP tj mv.1 mv.2):=by
      rw[take_snoc hm];exact Ma.qa _ _ _ _ _ _ hj vV hp
     have tQ:m2.picks.length<=1000:=by rw[d5.pc];have:=IC su hj;omega
     obtain⟨k1,_⟩:=d5.kp _ _ f1 (D1.rep.out f4);obtain⟨k2,_⟩:=d5.kp _ _ f2 (D1.rep.out f5);obtain⟨k3,o3⟩:=d5.kp _ _ f3 (D1.rep.out f6);obtain⟨zs',R'⟩:=d5.rep.freeze k3 o3;obtain⟨dd',su',afP,_⟩:=d5.rep.gk;rw[d5.dr]at afP;walk_at"";refine⟨_,dd',_,rfl,afP,rfl,?_⟩;walk_at"";refine⟨_,_,dc',_,_,rfl,k1,T.dW,T.cX,rfl,?_⟩;walk_at"";refine eO (bW.of k2) (ya (uL 0) rfl) ?_;walk_at"";refine⟨_,_,dc',_,_,rfl,k1,T.dW,T.gI,rfl,?_⟩;walk_at"";refine⟨kr g2 ra' (.lst (mv.2.map nV)),m2,mv.1,p,r,ra',mv.2,by rw[show(kr g2 ra' (.lst (mv.2.map nV))) .dr=g2 .dr from rfl,d5.dr];rfl,R',d5.pk.rN,tk.hi,tk.hq,tk.sm,AG _ _ _,tQ,tk.rd,tk.c3,tk.lt,tk.Of,tk.pool,tk.fl,tk.oi,tk.n8,tk.s5,fun H6 g6 q6 R6 F6 ed hq6 amx oq6=>?_⟩;refine⟨_,_,_,g6,lN (gN m2 mv.1 p r mv.2),rfl,?_,hj2⟩;rw[take_snoc hm];exact d5.aez (g1:=kr g2 ra' (.lst (mv.2.map nV))) tk rfl zs' (fun b h=>(OW h).imp_right fun e=>by rw[e];exact IJ.free f6) R6 F6 ed
   ·rintro σ H' ⟨v4,v5,tj,g2,m2,rfl,d,hj⟩;rw[ae,CA.len,bJ]at d hj;rw[hj]at dB;obtain⟨S5,K5⟩:=d.done sx hl (fun b=>b=ra);walk_at"";refine⟨l,_,dl,_,rfl,d.sm _ _ hl,T.e8,T.bP,(by show 1<1000;decide),?_⟩;have ef:pL "draft" (V.ref X) [("draft",V.ref (g .dr))]=([("draft",V.ref X)]:List (Str×V)):=rfl;rw[ef];generalize upd H' l (.ins ad.jy dl [("draft",V.ref X)])=H6 at S5 K5⊢;walk_at"";refine⟨by show 1<=sizeLine;decide,fun z hz=>?_⟩;have sz:=aP (.lst [V.int 0]) hz;refine k _ _ z [0] ?_ (K5.same sz) (by rw[dB]) ak;rw[dB];exact⟨g2,m2,S5.same sz⟩
theorem ML(m:DM)(p:Nat)(a r:List Int):refOf m p a r<=0:=by
 unfold refOf;split
 ·unfold agt lA;repeat' split<;>first|decide|omega
 ·exact Gx _ _ _
 ·exact G3 _ _
 ·exact IG _ _
 ·exact kD _ _
 ·exact uL _
 ·exact kD _ _
 ·exact uL _
 ·exact kD _ _
 ·exact kD _ _
 ·exact kD _ _
 ·exact kD _ _
 ·exact PU _ _ _
 ·exact uL _
 ·unfold j3;repeat' split<;>first|decide|omega
 ·unfold qu;repeat' split<;>first|decide|omega
 ·exact kD _ _
 ·unfold mV;repeat' split<;>first|decide|omega
theorem Tq{s:dQ}{m:DM}(h:HA s m):m.kinds=s.table.setup.kinds:=by
 rcases h with ⟨a,b⟩|⟨_,a⟩
 ·rw[a,b];rfl
 ·exact a.kinds
theorem VZ{s:dQ}{m:DM}{p:Nat}{a r:List Int}{c:List (List Int)}{d:Yy}(tab:HA s m)(pc:m.picks=s.moves)(f:Ma.Form c p a r)(hd:Ma.CS p a r=some d)(h:refOf m p a r≠0):aU s d=(s,[refOf m p a r]):=by
 have hn:=tZ tab;have h18:=f.p18;have neg:=ML m p a r;have dn:∀(i:Int) (k:Unit->dQ×List Int),cS m.n i≠0->bI s [(-1,!bf i 0 7),iH s i] k=(s,[cS m.n i]):=fun i k h=>(jc hn).trans (if_neg h)
 match p,h18,f,hd,h,neg with
 |0,_,f,hd,h,neg=>
  obtain⟨n,a,b,c,d,q,r0,x,rfl⟩:=Hj f;cases (show some (LH n a b c d q r0 x r)=some _ from hd);exact(Hw s n a b c d q r0 x r).trans (if_neg h)
 |1,_,f,hd,h,neg=>
  obtain⟨i,rfl⟩:=fj f rfl;cases (show some (Oz i r)=some _ from hd);exact(CB tab i r).1 h
 |2,_,f,hd,h,neg=>
  obtain⟨i,rfl⟩:=fj f rfl;cases (show some (OA i)=some _ from hd);exact(Jl tab i).1 (Vk.mpr ⟨neg,h⟩)
 |3,_,f,hd,h,neg=>
  obtain⟨i,rfl⟩:=fj f rfl;cases (show some (OQ i)=some _ from hd);exact(Mz tab i).1 (Vk.mpr ⟨neg,h⟩)
 |4,_,f,hd,h,neg=>
  obtain⟨i,rfl⟩:=fj f rfl;cases (show some (Oy i)=some _ from hd);rw[aU];exact dn i _ h
 |5,_,f,hd,h,neg=>exact absurd rfl h
 |6,_,f,hd,h,neg=>
  obtain⟨i,rfl⟩:=fj f rfl;cases (show some (LX i)=some _ from hd);rw[aU];exact dn i _ h
 |7,_,f,hd,h,neg=>exact absurd rfl h
 |8,_,f,hd,h,neg=>
  obtain⟨i,rfl⟩:=fj f rfl;cases (show some (Ox i)=some _ from hd);rw[aU];exact dn i _ h
 |9,_,f,hd,h,neg=>
  obtain⟨i,rfl⟩:=fj f rfl;cases (show some (OB i)=some _ from hd);rw[aU];exact dn i _ h
 |10,_,f,hd,h,neg=>
  obtain⟨i,rfl⟩:=fj f rfl;cases (show some (OD i)=some _ from hd);rw[aU];exact dn i _ h
 |11,_,f,hd,h,neg=>
  obtain⟨i,rfl⟩:=fj f rfl;cases (show some (JP i)=some _ from hd);rw[aU];exact dn i _ h
 |12,_,f,hd,h,neg=>
  obtain⟨i,rfl⟩:=fj f rfl;cases (show some (JO i)=some _ from hd);have h:qr i 64 m.kinds.length≠0:=h;rw[aU];show bI s [(-1,!bf i 0 63),(-2,decide ((s.table.setup.kinds.length:Int)<=i))] _=(s,[qr i 64 m.kinds.length]);rw[<-Tq tab];unfold qr at h⊢;unfold bI;cases e:wi 0 (64-1) i with
  |false=>
   have e:bf i 0 63=false:=e;rw[e];rfl
  |true=>
   have e':bf i 0 63=true:=e;rw[e,if_pos rfl]at h;by_cases c:(m.kinds.length:Int)<=i
   ·rw[e',decide_eq_true c,if_pos rfl,if_pos c];rfl
   ·rw[if_neg c]at h;exact absurd rfl h
 |13,_,f,hd,h,neg=>exact absurd rfl h
 |14,_,f,hd,h,neg=>
  have ha:a=[]:=fD f.len;subst ha;cases (show some (LG r)=some _ from hd);have h:j3 m r≠0:=h;rw[aU];show bI s [(-1,!(decide (r.length<=20000)&&r.all fun n=>bf n 0 255)),(-2,s.table.setup.seats==0)] _=(s,[j3 m r]);rw[<-hn];unfold j3 at h⊢;unfold bI;by_cases c:r.length<=20000/\r.all (wi 0 255)=true
  ·rw[if_pos c]at h⊢;by_cases c2:m.n=0
   ·have e2:(r.all fun n=>bf n 0 255)=true:=c.2;rw[decide_eq_true c.1,e2,c2,if_pos rfl];rfl
   ·rw[if_neg c2]at h;exact absurd rfl h
  ·rw[if_neg c];have e:(decide (r.length<=20000)&&r.all fun n=>bf n 0 255)=false:=by
    cases z:(decide (r.length<=20000)&&r.all fun n=>bf n 0 255)with
    |false=>rfl
    |true=>
     rw[aE]at z;exact absurd ⟨of_decide_eq_true z.1,z.2⟩ c
   rw[e];rfl
 |15,_,f,hd,h,neg=>
  obtain⟨i,rfl⟩:=fj f rfl;cases (show some (OC i)=some _ from hd);have h:qu m i≠0:=h;rw[aU];show bI s [(-1,!bf i 1 1000),(-5,decide ((s.moves.length:Int)<i))] _=(s,[qu m i]);rw[<-pc];unfold qu at h⊢;unfold bI;cases e:wi 1 1000 i with
  |false=>
   have e:bf i 1 1000=false:=e;rw[e];rfl
  |true=>
   have e':bf i 1 1000=true:=e;rw[e,if_pos rfl]at h;by_cases c:(m.picks.length:Int)<i
   ·rw[e',decide_eq_true c,if_pos rfl,if_pos c];rfl
   ·rw[if_neg c]at h;exact absurd rfl h
 |16,_,f,hd,h,neg=>
  obtain⟨i,rfl⟩:=fj f rfl;cases (show some (LW i)=some _ from hd);rw[aU];exact dn i _ h
 |17,_,f,hd,h,neg=>
  obtain⟨i,rfl⟩:=fj f rfl;cases (show some (LY i)=some _ from hd);have h:mV i≠0:=h;rw[aU];show bI s [(-1,!bf i 0 3)] _=(s,[mV i]);unfold mV at h⊢;unfold bI;cases e:wi 0 3 i with
  |false=>
   have e:bf i 0 3=false:=e;rw[e];rfl
  |true=>rw[e,if_pos rfl]at h;exact absurd rfl h
 |p+18,h,_,_,_,_=>exact absurd h (by omega)
theorem abY(T:Txt K mg ad){p:Nat}(h:p<18):∃f fd k,JL [V.ref ad.Fo,.ref ad.Lb,.ref ad.Ld,.ref ad.Sk,.ref ad.Hf,.ref ad.Fk,.ref ad.Fm,.ref ad.Bt,.ref ad.La,.ref ad.Le,.ref ad.Lg,.ref ad.yE,.ref ad.yD,.ref ad.Bw,.ref ad.Bu,.ref ad.Lf,.ref ad.Fl,.ref ad.Fn] (p:Int)=some (.ref f)/\
  cF P w K mg base iC k f fd ["line","call"] (jM ad p)/\k<=9/\eV K (.ref f)=true/\Binds K fd ["line","call"] []:=by
 match p,h with
 |0,_=>exact⟨_,_,7,rfl,WX T,by decide,T.J3.F.kp,T.J3.b⟩
 |1,_=>exact⟨_,_,8,rfl,ZN T,by decide,T.OY.F.kp,T.OY.b⟩
 |2,_=>exact⟨_,_,8,rfl,ZO T,by decide,T.OZ.F.kp,T.OZ.b⟩
 |3,_=>exact⟨_,_,6,rfl,acI T,by decide,T.VE.F.kp,T.VE.b⟩
 |4,_=>exact⟨_,_,5,rfl,Tj T,by decide,T.Cd.F.kp,T.Cd.b⟩
 |5,_=>exact⟨_,_,6,rfl,WT T,by decide,T.JY.F.kp,T.JY.b⟩
 |6,_=>exact⟨_,_,6,rfl,WV T,by decide,T.J0.F.kp,T.J0.b⟩
 |7,_=>exact⟨_,_,6,rfl,T4 T,by decide,T.FF.F.kp,T.FF.b⟩
 |8,_=>exact⟨_,_,6,rfl,ZM T,by decide,T.OX.F.kp,T.OX.b⟩
 |9,_=>exact⟨_,_,6,rfl,ZP T,by decide,T.O0.F.kp,T.O0.b⟩
 |10,_=>exact⟨_,_,6,rfl,ZS T,by decide,T.O2.F.kp,T.O2.b⟩
 |11,_=>exact⟨_,_,6,rfl,PQ T,by decide,T.Cf.F.kp,T.Cf.b⟩
 |12,_=>exact⟨_,_,6,rfl,PN T,by decide,T.Ce.F.kp,T.Ce.b⟩
 |13,_=>exact⟨_,_,6,rfl,T6 T,by decide,T.FH.F.kp,T.FH.b⟩
 |14,_=>exact⟨_,_,9,rfl,T5 T,by decide,T.FG.F.kp,T.FG.b⟩
 |15,_=>exact⟨_,_,9,rfl,ZR T,by decide,T.O1.F.kp,T.O1.b⟩
 |16,_=>exact⟨_,_,6,rfl,WU T,by decide,T.JZ.F.kp,T.JZ.b⟩
 |17,_=>exact⟨_,_,6,rfl,WW T,by decide,T.J1.F.kp,T.J1.b⟩
 |p+18,h=>exact absurd h (by omega)
theorem KH(T:Txt K mg ad):cF P w K mg base iC 10 ad.xC ad.xR ["line","call"] (Rf ad (QJ ad)):=by
 refine T.rT.F.ok uW (by rintro _ _ _ _ ⟨l,x,dc,na,ra,F,s,pl,a,r,c,d,rfl,_⟩;rfl) (fun _ A _ s H vs Q E hr h=>?_)
 ·obtain⟨l,x,dc,na,ra,F,st,p,a,r,c,d,rfl,⟨g,m,sx⟩,sok,hx,rL,pW,nF,f,hd,hal,hrl,k⟩:=h;obtain⟨dl,hl⟩:=sx.line;have hp:=f.p18;have nz:∀ {b},H b=none->¬F b:=fun{b} e h=>sx.tr h e
  refine⟨_,(aC (cf (i:=2) uW.nd rfl (be rfl) (bF (zd T) hr.mono rfl T.jK.g T.jK.F.kp T.jK.b .nil bp (af (aQ (pv 0) rfl) (af (pv 1) ay))))
   (aC (i6 (eP RI (pv 2) aS (fP _))
   (aJ (bj (fg (af (pv 2) ay))))
   eZ)
   (aC (cf (i:=3) uW.nd rfl (be rfl) (eB Qc (wV rfl T.aaG) (aQ (pv 1) rfl) (fun _ _=>rfl)))
   (aJ (bj (gF WS (fg (af aS ay)) (MY (i:=3) rfl (be rfl) (af (pv 0) (af (pv 1) ay))))))))),?_⟩
  walk_at"";refine⟨_,_,dl,_,_,rfl,hl,T.e8,T.bP,rfl,?_⟩;walk_at"";refine⟨p,hp,g,m,x,a,r,rfl,sx.rep,⟨dc,na,ra,hx,rL,pW⟩,Wv sx.tab sx.pk (by omega),f.len,fun H1 s1=>?_⟩;have hle:=ML m p a r;walk_at"";refine ik (fun c1=>?_) fun c1=>?_
  ·have c1:refOf m p a r≠0:=by have:=of_decide_eq_true c1;omega
   have dB:=VZ sx.tab sx.pc f hd c1;walk_at"";refine⟨by show 1<=sizeLine;decide,fun q hq=>?_⟩;have s2:=s1.trans (aP (.lst [V.int (refOf m p a r)]) hq);refine k _ F q ?_ (fun b o e hb=>⟨s2 _ _ e,fun _=>hb⟩) (fun h=>absurd (s1.free hq) h) ?_ (nz (s1.free hq))
   ·rw[dB];exact⟨g,m,sx.same s2⟩
   ·rw[dB];exact ak
  ·have c1:refOf m p a r=0:=by
    apply bZ
    intro q;exact c1 (decide_eq_true (by omega))
   walk_at"";refine⟨_,_,dc,_,_,rfl,s1 _ _ hx,T.dW,T.tM,rfl,?_⟩;obtain⟨ff,fd,kk,Jt,G,hk9,kp,bb⟩:=abY (P:=P) (w:=w) (base:=base) T hp;refine XM (T.ZE _) Jt ?_;walk_at"";refine⟨by show 1<=sizeLine;decide,fun z hz=>?_⟩;have hz0:=s1.free hz;have s2:=s1.trans (aP (.lst [V.int 0]) hz);have hzv:upd H1 z (.lst [V.int 0]) z=_:=ak;generalize upd H1 z (.lst [V.int 0])=H2 at s2 hzv⊢;walk_at"";refine⟨ff,fd,kk,_,_,rfl,G,hr.mono hk9,kp,bb,?_⟩;walk_at"";refine⟨l,x,dc,na,ra,F,st,a,r,c,d,g,m,rfl,⟨sx.same s2,sok,s2 _ _ hx,s2 _ _ rL,s2 _ _ pW,nF,f,hd,hal,hrl⟩,c1,fun H3 F3 q ans Zo kp3 afT vT=>?_⟩;have hlen:=Ma.Au sok d;rw[afT,az]at hlen;obtain⟨hz3,_⟩:=kp3 _ _ hzv (nz hz0);refine⟨z,q,_,_,rfl,rfl,hz3,vT,YO (by rw[ae];simp only[az,kn];omega),fun v hv=>?_⟩;have sv:=aP (.lst ([V.int 0]++ans.map V.int)) hv;refine k _ F3 v (t7 Zo fun b o e _=>sv _ _ e) (fun b o e hb=>⟨sv _ _ (kp3 _ _ (s2 _ _ e) hb).1,(kp3 _ _ (s2 _ _ e) hb).2⟩) (fun h=>?_) (by rw[afT];exact ak) (fun h=>FX Zo h hv);apply bZ;intro nf;cases e:H v with
   |none=>exact h e
   |some o=>
    have:=(kp3 _ _ (s2 _ _ e) nf).1;rw[hv]at this;cases this
end
theorem PR{P:bw}{w:bQ}{K:aq}{mg:Str->Option aj}{base:Heap}{ad:Ad}(T:Txt K mg ad):cF P w K mg base iC 30 ad.yF ad.ux ["calls"] (Rg K):=
 Ib T ((KH T).mono (by decide)) ((KN T).mono (by decide)) t7 FX
theorem fin{P:bw}{w:bQ}{K:aq}{mg:Str->Option aj}{fa f:Addr}{kV dc pm:aj}{an:Option Addr}{cd ct:aj}
  (h:∃ad:Ad,Txt K mg ad/\ad.yF=f/\ad.ux=lp "answers" "answers" (yG ud) (vd ud) (aL ud) .none kV dc pm an cd ct)(hfa:mg "answers" =some (.ref fa)):
  ∃fd:FuncData,(∀(s:au) (us:List aj),us.length=(["calls"]:List Str).length->OS s fd ⟨us,[]⟩ ((["calls"]:List Str).zip us))/\∀base:Heap,K.In base->base.Ns mainGlobals mg->cF P w K mg base iC 30 fa fd ["calls"] (Rg K):=by
 obtain⟨ad,T,e1,e2⟩:=h;have e:=hfa.symm.trans T.Iw.g;cases e;refine⟨ad.ux,fun s us hu=>?_,fun base _ _=>PR T⟩;rw[e2];exact match us,hu with|[_],_=>.of_eq rfl
end Pd
local macro_rules | `(tactic|walk_at"bd")=> `(tactic|first|exact Pd.bd2 fun _ _ _ _ _ _ _ _=>rfl|exact Pd.bd1 fun _ _ _ _ _ _ _=>rfl|exact Pd.bd3 fun _ _ _ _ _ _ _ _ _=>rfl|exact Pd.bd0 fun _ _ _ _ _ _=>rfl|exact Pd.bd4 fun _ _ _ _ _ _ _ _ _ _=>rfl|exact Pd.bd7 fun _ _ _ _ _ _ _ _ _ _ _ _ _=>rfl)
open PySem PySem.W PyProof.Rows Pd
set_option maxRecDepth 100000 in
set_option maxHeartbeats 0 in
theorem PySem.Challenge.cw_packdraft_s01_answers_holds : PySem.Challenge.rw_packdraft_s01_answers.Holds := by
 w_on;k_headS;(case hw=>exact⟨[.list [.int 7]],by decide+kernel,by decide+kernel⟩)
 k_fillS
 refine L2.O5 (r:=PySem.Challenge.rw_packdraft_s01_answers) (k:=30) (CX:=L2.iC) (ps:=["calls"]) (sp:=Pd.Rg) (by decide+kernel) rfl rfl ⟨rfl,by decide,by decide⟩ (fun w h Y=>PySem.W.kIn_of Y) ?F ?S (fun _ _ _ _ z=>z)
 case F=>
  intro w mg fa h Y KX G hmg
  refine' Pd.fin ⟨.mk,⟨fK KX G ?_,fC ?_ ?_ ?_ ?_,fA ?_,fA ?_,fA ?_,fK KX G ?_,fC ?_ ?_ ?_ ?_,fA ?_,fK KX G ?_,fC ?_ ?_ ?_ ?_,fA ?_,fA ?_,fA ?_,fA ?_,fK KX G ?_,fC ?_ ?_ ?_ ?_,fA ?_,fA ?_,fA ?_,fA ?_,fK KX G ?_,fC ?_ ?_ ?_ ?_,fA ?_,fA ?_,fA ?_,fA ?_,fA ?_,fA ?_,fK KX G ?_,fC ?_ ?_ ?_ ?_,fA ?_,fA ?_,fA ?_,fA ?_,fA ?_,fA ?_,fK KX G ?_,fC ?_ ?_ ?_ ?_,fA ?_,fA ?_,fA ?_,fK KX G ?_,fC ?_ ?_ ?_ ?_,fA ?_,fA ?_,fK KX G ?_,fC ?_ ?_ ?_ ?_,fA ?_,fI ?_ ?_ ?_ ?_ ?_ ?_ ?_,fI ?_ ?_ ?_ ?_ ?_ ?_ ?_,fM ?_ ?_ ?_ ?_ ?_,fG KX G ?_ ?_ ?_ ?_,fG KX G ?_ ?_ ?_ ?_,fG KX G ?_ ?_ ?_ ?_,fI ?_ ?_ ?_ ?_ ?_ ?_ ?_,fI ?_ ?_ ?_ ?_ ?_ ?_ ?_,fM ?_ ?_ ?_ ?_ ?_,fM ?_ ?_ ?_ ?_ ?_,fM ?_ ?_ ?_ ?_ ?_,fM ?_ ?_ ?_ ?_ ?_,fM ?_ ?_ ?_ ?_ ?_,fM ?_ ?_ ?_ ?_ ?_,fM ?_ ?_ ?_ ?_ ?_,fG KX G ?_ ?_ ?_ ?_,fI ?_ ?_ ?_ ?_ ?_ ?_ ?_,fI ?_ ?_ ?_ ?_ ?_ ?_ ?_,fM ?_ ?_ ?_ ?_ ?_,fM ?_ ?_ ?_ ?_ ?_,fM ?_ ?_ ?_ ?_ ?_,fM ?_ ?_ ?_ ?_ ?_,fM ?_ ?_ ?_ ?_ ?_,fM ?_ ?_ ?_ ?_ ?_,fM ?_ ?_ ?_ ?_ ?_,fM ?_ ?_ ?_ ?_ ?_,fM ?_ ?_ ?_ ?_ ?_,fG KX G ?_ ?_ ?_ ?_,fG KX G ?_ ?_ ?_ ?_,fI ?_ ?_ ?_ ?_ ?_ ?_ ?_,fI ?_ ?_ ?_ ?_ ?_ ?_ ?_,fM ?_ ?_ ?_ ?_ ?_,fM ?_ ?_ ?_ ?_ ?_,fM ?_ ?_ ?_ ?_ ?_,fM ?_ ?_ ?_ ?_ ?_,fG KX G ?_ ?_ ?_ ?_,fG KX G ?_ ?_ ?_ ?_,fG KX G ?_ ?_ ?_ ?_,fG KX G ?_ ?_ ?_ ?_,fG KX G ?_ ?_ ?_ ?_,fG KX G ?_ ?_ ?_ ?_,fG KX G ?_ ?_ ?_ ?_,fG KX G ?_ ?_ ?_ ?_,fG KX G ?_ ?_ ?_ ?_,fG KX G ?_ ?_ ?_ ?_,fG KX G ?_ ?_ ?_ ?_,fG KX G ?_ ?_ ?_ ?_,fG KX G ?_ ?_ ?_ ?_,fG KX G ?_ ?_ ?_ ?_,fG KX G ?_ ?_ ?_ ?_,fG KX G ?_ ?_ ?_ ?_,fG KX G ?_ ?_ ?_ ?_,fG KX G ?_ ?_ ?_ ?_,fG KX G ?_ ?_ ?_ ?_,fG KX G ?_ ?_ ?_ ?_,fG KX G ?_ ?_ ?_ ?_,fG KX G ?_ ?_ ?_ ?_,fG KX G ?_ ?_ ?_ ?_,fG KX G ?_ ?_ ?_ ?_,fG KX G ?_ ?_ ?_ ?_,fG KX G ?_ ?_ ?_ ?_,fG KX G ?_ ?_ ?_ ?_,fI ?_ ?_ ?_ ?_ ?_ ?_ ?_,fG KX G ?_ ?_ ?_ ?_,fG KX G ?_ ?_ ?_ ?_,fG KX G ?_ ?_ ?_ ?_,fG KX G ?_ ?_ ?_ ?_,fG KX G ?_ ?_ ?_ ?_,fG KX G ?_ ?_ ?_ ?_,fG KX G ?_ ?_ ?_ ?_,fG KX G ?_ ?_ ?_ ?_,fG KX G ?_ ?_ ?_ ?_,fG KX G ?_ ?_ ?_ ?_,fG KX G ?_ ?_ ?_ ?_,fG KX G ?_ ?_ ?_ ?_,fG KX G ?_ ?_ ?_ ?_,fG KX G ?_ ?_ ?_ ?_,fG KX G ?_ ?_ ?_ ?_,fG KX G ?_ ?_ ?_ ?_,fG KX G ?_ ?_ ?_ ?_,fG KX G ?_ ?_ ?_ ?_,fG KX G ?_ ?_ ?_ ?_,fG KX G ?_ ?_ ?_ ?_,fG KX G ?_ ?_ ?_ ?_,fG KX G ?_ ?_ ?_ ?_,fG KX G ?_ ?_ ?_ ?_,fV KX G ?_,fV KX G ?_,fV KX G ?_,fV KX G ?_,fV KX G ?_,fK KX G ?_,fT ?_ ?_ ?_,fK KX G ?_,fT ?_ ?_ ?_,fV KX G ?_,fV KX G ?_,fV KX G ?_,fV KX G ?_,fV KX G ?_,fV KX G ?_,fV KX G ?_,fV KX G ?_,fV KX G ?_,fV KX G ?_,fV KX G ?_,fV KX G ?_,fV KX G ?_,fK KX G ?_,fT ?_ ?_ ?_,fV KX G ?_,fV KX G ?_,fV KX G ?_,fV KX G ?_,fK KX G ?_,fT ?_ ?_ ?_,fK KX G ?_,fT ?_ ?_ ?_,fN KX G ?_,fN KX G ?_,fN KX G ?_,fN KX G ?_,fN KX G ?_,fN KX G ?_,fN KX G ?_,fN KX G ?_,fN KX G ?_,fN KX G ?_,fN KX G ?_,fN KX G ?_,fN KX G ?_⟩,rfl,rfl⟩ hmg
  all_goals try ((try dsimp only);k_is)
  all_goals first|decide|(repeat first|exact .nil|refine .cons rfl ?_|refine .cons ⟨_,rfl⟩ ?_)
 case S=>
  intro K H xs a hO hwi adg hx;cases hx with
  |cons h1 h2=>
   cases h2;cases h1 with
   |lst hs ha=>
    have e:=L2.RZ a.1 _ ha;subst e;have q:((Codec.inLen 0 16000 a.1&&a.1.all (Codec.inInt (-1000000000000000000) 1000000000000000000))&&true)=true:=hwi;rw[aE,aE]at q;exact⟨_,a.1,rfl,hs,(Codec.inNat_iff.mp q.1.1).2,adg,fun H' p hp=>.lst (L2.bW.of hp) (L2.Sn _)⟩
