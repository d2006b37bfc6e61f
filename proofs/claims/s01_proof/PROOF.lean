import PyProof.Rows.All
import Wide.All
import OpenK.AllK
import Wide.FinOn
import PyProof.EqAt
import PyProof.EqKinds
import PyProof.TupleCall
import KE.BitLaws
import PyProof.WalksMore
import PyProof.Rows.SetFrom
import PyProof.ListNew
import Open.SpecLaws
import KE.OsHead
import KE.OsGo
import KE.KSortTupG
import PySem.Challenge.RW_claimskept_s01_answers
set_option Elab.async false
set_option linter.all false
set_option maxRecDepth 100000
set_option maxHeartbeats 16000000
set_option tactic.hygienic false
open Lean Parser Tactic in
def rcp:Nat->Syntax->Syntax
|0,s=>s
|n+1,s=>if s.isOfKind ``Term.anonymousCtor then mkNode ``rcasesPat.tuple #[mkAtom "⟨",mkNullNode (s[1].getArgs.map λx=>if x.isAtom then x else mkNode ``rcasesPatLo #[mkNode ``rcasesPatMed #[mkNullNode #[rcp n x]],mkNullNode]),mkAtom "⟩"] else if s.isIdent then mkNode ``rcasesPat.one #[s] else mkNode ``rcasesPat.ignore #[mkAtom "_"]
open Array renaming toList->bgd,getElem?_eq_none->bhb,forIn_toList->bh4
open Bool renaming true->ae,false->ag,and_eq_true->cg,false_ne_true->gy,or_eq_true->jb,and_false->kr,eq_iff_iff->oj,true_and->oq,or_false->yd,false_and->JO,noConfusion->NE,false_eq_true->U3,and_true->VS,not_eq_true'->ajo,not_true->ajq,beq_comm->ajs,or_true->awp,false_or->biy,or_assoc->bjw,or_eq_false_iff->bj9
open Char renaming toNat->M6,ofNat->V0
open Classical renaming byContradiction->UG
open Eq renaming trans->VP
open False renaming elim->ya
open ForInStep renaming yield->ZN
open Function renaming comp_apply->aw1
open Int renaming toNat_natCast->Z3,ofNat_lt->avz,toNat_of_nonneg->bkh
open List renaming length_map->bt,map_cons->b9,mem_cons->df,mem_cons_of_mem->dj,length_cons->d6,mem_cons_self->d7,map_map->el,range->e6,length_append->e9,map_append->fe,mem_singleton->fq,nodup_cons->gd,mem_map->gx,getElem?_eq_getElem->gz,append_nil->ip,getElem?_set_ne->ir,mem_filter->iu,getElem?_map->i9,append_assoc->jl,map_congr_left->jw,mem_range->ka,mem_append_right->mn,all_eq_true->mr,nodup_nil->ol,length_set->qj,nil_append->qk,not_mem_nil->qo,mem_map_of_mem->qp,length_singleton->qr,mem_append->sh,flatMap_cons->tj,size_toArray->uw,all_cons->ux,filter_cons->u7,range'->u9,length->wa,pairwise_cons->wd,map->wg,getElem?_eq_some_iff->x9,lookup->ye,getD_eq_getElem?_getD->yh,drop_eq_getElem_cons->yi,pairwise_lt_range->yw,mem_append_left->JL,lookup_cons->JU,nodup_append->J0,find?_cons_of_pos->J1,find?_cons_of_neg->J2,filter_congr->J3,length_reverse->J9,getElem?_replicate->MT,length_drop->MV,any_cons->MZ,pairwise_map->NH,getElem?_set_self->QE,any_eq_false->QH,mem_of_getElem?->QL,getElem?_append->QV,drop_eq_nil_of_le->Q7,mem_of_find?_eq_some->Q8,length_take->UU,getElem?_append_left->UW,take_of_length_le->U1,any_map->U2,foldl_cons->U5,map_nil->VA,range_succ->VF,map_singleton->VH,filter_nil->VI,range_eq_range'->V1,length_filter_le->V2,replicate->ZC,drop_length->ZU,getElem_mem->ZW,find?_eq_none->ajp,any_eq_true->aju,filter_append->ajz,findIdx?_eq_some_iff_getElem->aj1,mem_iff_getElem->aj2,contains_iff_mem->aj7,range'_succ->aj8,map_drop->aka,of_mem_zip->avb,length_replicate->avc,range_succ_eq_map->avq,length_nil->avv,zip->awf,find?_cons->awh,dropLast_concat->awo,cons_append->awr,map_id->aws,find?_append->awt,getElem?_eq_none->awz,findIdx?_cons->aw0,isEmpty_iff->aw2,dropWhile->axb,dropWhile_cons->axc,getLast?_concat->axe,Nodup->axg,length_zip->axh,flatMap_nil->axj,zipIdx_cons->axm,length_filterMap_le->axn,filterMap_cons->bgb,mem_filterMap->bgg,take_sublist->bgu,all_map->bg5,length_pos_iff->bhh,length_eq_zero_iff->bhl,any_toArray->bhv,map_inj_right->bhx,pairwise_singleton->bhz,ext_getElem?->bix,getElem?_concat_length->bi5,mem_singleton_self->bjd,pairwise_flatMap->bjk,findIdx?_eq_none_iff->bjr,filter_eq_nil_iff->bjs,filter_map->bju,any_append->bjv,dropWhile_sublist->bkc,contains_cons->bkg,getElem_zip->bki,pairwise_append->bkk,zipIdx_nil->bkm,getLast?_eq_getElem?->bkn,drop_reverse->bkq,take_eq_take_min->bkr,mem_of_mem_take->bks,mem_reverse->bkt,map_take->bk0,forall_mem_cons->bk5
open List.Nodup renaming sublist->bi6
open List.Pairwise renaming filter->kg,map->VE,imp->VJ,imp_of_mem->aj0,nil->bmu
open List.Perm renaming refl->av8,swap->bhy,eq_of_pairwise->bmt,map->bnw
open List.cons renaming injEq->bjb
open Nat renaming le_refl->b8,zero_le->gv,ne_of_lt->g9,lt_of_lt_of_le->jf,le_trans->jh,le_of_lt->sg,lt_succ_self->si,ne_of_gt->uq,lt_irrefl->xy,le_of_eq->JQ,lt_succ_of_lt->JV,lt_trans->JW,toDigits->JY,zero_add->ND,lt_or_ge->QZ,le_succ->UT,le_of_lt_succ->VD,lt_succ_of_le->VG,le_of_succ_le->ZL,lt_of_succ_lt->ZX,not_lt->ajx,min_eq_left->akf,digitChar->avx,lt_of_le_of_lt->av3,not_lt_zero->av5,add_assoc->awd,mul_le_mul_right->awx,add_zero->axq,succ_ne_self->bhe,toDigits_of_lt_base->bhk,lt_or_gt_of_ne->bjl,exists_eq_succ_of_ne_zero->bjm,ne_zero_of_lt->bjn,le_succ_of_le->bjo,lt_of_le_of_ne->bjp,succ_le_of_lt->bjq,pow_le_pow_right->bkd
open Ne renaming symm->ji
open NeutralIO renaming bytes->bn3
open Option renaming some->aa,none->af,bind->a5,map->a7,bind_some->b5,map_some->j4,isSome_map->om,isSome_iff_exists->MS,map_map->bjy
open Option.some renaming inj->fo
open Or renaming inl->ajv
open PyFlat renaming rows->NR,row->V5,call->akh,told->akj,calls->axr,played->axs
open PyProof.Rows renaming envOfC->v9,callWith_type1->JN,IsTup->MH,AllBare->MJ,itemOrd->M9,Call_->QG,slot_tuple_getitem->ZE,callWith_builtin1->avd,Subscript_->avk,lexLt->av7,listOrd->av9,iadd_int->bgf,slicePart_none->bgw,subscriptTail_builtinR->bgy,boot_enumerate->bhd,tupItems->bh0,arrOf->bh2,pairsOf_toList->bh3,boot_tuple->bil,boot_int->bim,boot_str->bio,toString_length_le->blx,join_list->blz,join_tuple->bl0,in_str->bl2,notIn_str->bl3,lex_cons->bmr,lex_total->bms,TupOf->bmv,tupKey->bmw,TupsOf->bmx,sortedAll_at->bmy,sortedAll_old->bmz,boot_isinstance->bm2,boot_all->bm3,boot_any->bm4,boot_sum->bm5,boot_ord->bm6,boot_sorted->bm7,boot_set->bnh
open PyProof.Rows.F renaming entry_set_update_loop->bi7,plain_set_update_loop->bi8
open PyProof.Rows.G renaming tupKeyC->awa,isTupObj->bh1
open PyProof.Rows.IsTup renaming new->avl
open PySem renaming wpAny_bind->aq,sizeLine->aw,wpAny->ax,model->az,Value->a6,Spec->bi,wpAny_pure->b4,Shared->cu,Scope->cz,World->c9,Program->de,starEach->ed,compareOp->ia,BoolOp->i7,compEnvC->ja,Around->jg,cLine->jj,backTo->kb,cellsFrom->kf,mainGlobals->kq,wpAny_field->lq,wpAny_mono->mm,mem_of_lookup->mq,IsPair->oh,pyNext->qg,sysModules->sf,wpAny_call_entry->sj,isTrue->uk,wpAny_truthy_bool->ul,UnaryOp->um,swapsWith->uo,contains->uu,binaryOp->vz,codeAny->v7,IsZip->wb,wpAny_seqItems->we,getItem->yb,pyIter->yc,scanBound->yn,sizeLine_eq->JP,wpAny_Call_Name_kw->JS,PyData->JT,pyHash->MG,bootBuiltins->MI,PassesOwn->MK,wpAny_passesOwn->ML,FuncData->MN,Keyword->MO,bindL->MP,bindC->MQ,wpAny_callSpecial?_slot->MW,wpAny_newObj_type->MX,pushCells->M0,wpAny_rule->NA,holding->QF,codeAny_mono->QK,wpAny_holding->QM,notedBy->QP,wpAny_setField_rec->QU,eqBool->UH,standAt->UK,wpAny_execs_cons->UL,assignEach->UM,wpAny_pyIter_tuple->UN,BindsTo->UP,bindArgs->UQ,backToKw->UR,keywordEach->US,typeIs_str->UX,sliceBounds->UY,call_meets->UZ,wpAny_specialOf->U4,wpAny_isInstance->U6,eqIsQuiet->U7,CmpOp->U9,wpAny_execs_nil->Y4,setItem->Y5,wpAny_pyIter_list->Y6,getMethod->Y9,subscripted->ZF,pushCells_keeps->ZK,valueAt->ZO,wpAny_pyIter_enum->ZQ,ZipApart->ZR,wpAny_pyIter_zip->ZS,Builtin->ZT,wpAny_dictEntries->Z0,wpAny_attempt->Z1,wpAny_typeNameOfWhole_valiter->Z2,rawInt->Z4,wpAny_setField->Z5,wpAny_onRaise->ajm,callerA->ajw,Within->auu,builtinsNs->auv,wpAny_Name->auw,Operator->auy,letOwnedTupleGo->auz,getAttr->au1,wpAny_call->au8,callWith->au9,concat_meets->ave,noFill_tuple_add->avf,seq_tuple_add->avg,seqIndex_of->avm,operate->avn,evalArgs_none->avo,wpAny_Call_method_late->avp,NameKind->avs,strValues->av0,IsTupleKey->awb,wpAny_tupleItemsOf->awc,isSubtype_tuple_tuple->awe,entryOfKey->awg,wpAny_dictEpoch->awi,wpAny_isOneOf_valiter->awj,wpAny_updateSeq_pair->awm,wpAny_letGo->awn,methodCallPos->awu,codeAny_builtin->awv,wpAny_assign_Name->bge,wpAny_isTrue_Compare1->bgj,recursionLimit->bgq,slot_list_getitem->bgz,call_list_seq->bg1,wpAny_standAt->bg6,wpAny_Assign_Subscript->bg7,wpAny_Dict_empty->bg8,wpAny_Call_method->bha,wpAny_letOwnedTupleGo_enum->bhc,wpAny_letOwnedTupleGo_zip->bhf,intText?->bhm,wpAny_notOrdered_dict->bh6,size_of_entries->bh8,atKey_of_get->bh9,wpAny_fieldsOf->bib,wpAny_handled->bih,isSubtype_stop->bii,Comprehension->bij,boot_len->bik,callType_new->bis,wpAny_runValue->bja,intText_digits->bke
open PySem.Builtin renaming globals->avt
open PySem.Builtin.Dict renaming showsAll->bi2,noArgs->bnb
open PySem.Builtin.Dict_items renaming dictOf->bnc,newIterator->bnd,ownsTuple->bnf
open PySem.Builtin.Frozenset renaming updateFrom->bi9
open PySem.Builtin.List renaming listTooLong->ZJ
open PySem.Builtin.Range renaming rangeSize->blm
open PySem.Builtin.Slice renaming slicePlaces->ZD,sliceAdjust->bgv,slicePartIndex->blq,sliceApplied->blr
open PySem.Builtin.SmallTypes renaming nextOf->bip,ownedTupleIsFree->biw,ownedTupleHandOut->bm9
open PySem.Builtin.SmallTypes.calledThroughType renaming match_1->bm8
open PySem.Builtin.Str renaming spaceWords->av1,occurrences->aww,glued->bni,partsBetween->bnj
open PySem.Builtin.Tuple renaming tupleItemsOf->bgx,tupleHashOf->bm0
open PySem.Calls renaming spliced_cons->JR,callWith_builtin->MY,spliced_nil->QJ,Constant_str->Y3,evalArgs_plain->ZI,Name_function_global->bgc
open PySem.Challenge renaming rw_claimskept_s01_answers->bk4,pw_claimskept_s01_answers->bng
open PySem.CmpOp renaming In->bgh,NotIn->bgi
open PySem.DictEntry renaming refKey->bln
open PySem.Expr renaming List->bi0
open PySem.F renaming plainAttrs_list->yj,slot_list_append->QN,slot_list_extend->U0,slot_dict_valueiterator_next->U8,type_list_append->VB,slot_tuple_hash->ZY,slot_tuple_eq->ZZ,slot_tuple_iterator_next->Z8,slot_zip_next->Z9,plainAttrs_str->ajn,slot_tuple_add->avh,entry_tuple_add->avi,args_tuple_add_2->avj,plainAttrs_dict->avw,slot_str_split->av2,type_list_extend->awq,entry_list_extend->bg2,args_list_extend_2->bg3,slot_list_pop->bg4,slot_dict_get->bg9,slot_dict_setdefault->bh5,entry_dict_valueiterator_next->bia,args_dict_valueiterator_next_1->bic,entry_tuple_iterator_next->biq,args_tuple_iterator_next_1->bir,entry_zip_next->biu,args_zip_next_1->biv,type_str_split->biz,slot_dict_values->bi1,slot_dict_values_iter->bi4
open PySem.Heap renaming get?_push_of_some->dg,lt_size->ec,get?_push_size->f7,size_push->jz,SameBut->JM,get?_update_self->ZH,ExtBut->Z7,IsTuple->awk,get?_update_other->bg0
open PySem.Heap.DictOf renaming new->blw
open PySem.Heap.DictOfH renaming new->bna
open PySem.Heap.IsSliceOf renaming new->blu
open PySem.Heap.IsValIter renaming typeIs->bm1
open PySem.Heap.SameBut renaming update->NC
open PySem.IsL renaming update->blv
open PySem.KWd renaming step->M8
open PySem.NameKind renaming free->QO,cell->ZM
open PySem.NumText renaming digitsVal->J6,AllDigits->avy
open PySem.Obj renaming mapSeq->ZG,data_mapFields->Z6,data_mapDictKeys->bh7,isFreed_of_fields->bid,cls_mapFields->bie
open PySem.Paired renaming length->UJ,snoc->avu
open PySem.PassesOwn renaming never->yk
open PySem.PyData renaming canLay0->qm,eqv->so,canLayAll0->QS,eqvAll->VQ,depth->aw5,depthAll->aw6,strOk->bj1
open PySem.SeqAt renaming canLay_of_shaped->uy,shaped->wc,EqAt->av4,RcNeAt->av6
open PySem.SeqAt.EqAt renaming int_str->bf9,str_int->bga,int_tuple->bho,str_tuple->bhp,tuple_str->bhq,tuple_int->bhr,of_refs->bhu,int_int->bl6,str_str->bmd,bool_bool->bmk,same->bmp
open PySem.SeqAt.RcAt renaming tuples->bhs,int_int->bl4,int_str->bl7,int_tuple->bl9,str_str->bmb,str_int->bme,str_tuple->bmg,bool_bool->bmi,tuple_str->bml,tuple_int->bmn
open PySem.SeqAt.RcNeAt renaming tuples->bht,int_int->bl5,int_str->bl8,int_tuple->bma,str_str->bmc,str_int->bmf,str_tuple->bmh,bool_bool->bmj,tuple_str->bmm,tuple_int->bmo
open PySem.SeqAt.Reads renaming unique->bmq
open PySem.Shared renaming heap->awl,TypeIs->bi3
open PySem.Str renaming ofString->M7,join->ZV,empty->au4
open PySem.StrLaws renaming glued_eq_join->bhi,found_one->bhn
open PySem.Txt renaming replace->su,join->JX,words->JZ
open PySem.Unicode renaming isSpace->QR
open PySem.Value renaming ref->ko,bool->xw,none->QC,type->UI,isInt->Y1,isStrOf->Y2,int->aut,str->bf8
open PySem.W renaming Frag->ba,keepIn->og,fnOf->qi,findIn->uv,kia_one->v8,codeIn->MU,nsIn->NF,instObj->QD,emptyDict->QI,kia_tup->QT,mg_of->QW,isFn->UO,lookIn->Y7,plainGet->Y8,makesIn->ZA,hasDictIn->au0,plainGet_of->au2,takerIn->au3,kitOne->au5,kitx_list->au6,kitx_tuple->au7,WellAll->awy,handedIn->bgk,plainOver->bgl,kitx_none->bgm,kitx_bool->bgn,kitx_int->bgo,kitx_str->bgp,callWith_K->bgr,callWith_K0->bgs,cellsFrom_some->bgt,ktu_apart->bhg,kitAny->bhw
open PySem.W.Codec renaming app->bjc
open PySem.W.KIN renaming signs_num->bhj,call_text->bl1
open PySem.W.KWk renaming nosp->bly
open PySem.W.Looks renaming here->blo
open PySem.W.WData renaming int->yt
open PySem.Walks renaming list->avr
open PySem.Within renaming cons->blp
open PyVadttd renaming shape->NS,answers->V6,whole->aki,answers_asked->axt
open PyVadttd.whole renaming match_1->bn5
open Sum renaming inl->ml,inr->xu
open Sum.inr renaming inj->axf
open True renaming intro->lp
open UInt8 renaming toNat->uz,ofNat->VX,toNat_inj->ajr
open Vadtta renaming breakers->a8,expOf->fb,cellsIn->f9,Table->gj,condOf->g0,eachOf->ib,isWord->i4,writeAll->jn,isAtomByte->kh,claimTree->ku,wOf->kx,wordOf->lc,fits->lu,Column->mw,wTable->m6,isReferred->oo,Cell->ot,twice->ou,isDigit->ox,treesFrom->oy,isDigits->oz,alike->qt,cellIn->qv,sumOf->qw,isUp->qz,atomOf->rf,readOne->rg,condsOf->sv,Store->sy,kindOf->tm,wAdd->u5,wSub->u6,wWord->wj,valueOf->wk,wOne->yo,wTwo->yp,wCol->yq,wGroups->yz,wUp->y3,columnOf->y4,rowOf->y6,Claim->y8,isWordByte->y9,wEach->J4,wNext->J5,amount->NI,wRefers->NJ,sumTree->NK,isLetter->NN,twosOf->QX,Row->Q0,wSum->Q2,wCount->Q3,wAny->Q4,wMaybe->Q5,cutFrom->Q6,rowTree->Q9,colsAll->VO,cellOf->VT,tableTree->VU,Kind->VW,readAll->VY,cut->VZ,Exp->ajt,ROWS->aj5,Cond->aw4,wPairs->aw7,wKey->aw8,wFixes->aw9,TEXT->axa,isBlank->axd,showNat->axi,setsTold->axk,nats->axl,bytes->axo,wLess->bje,wSame->bjf,wGone->bjg,wNot->bjh,wAnd->bji,wOr->bjj,numIn->bjt,holdsSome->bjz,holdsAll->bj0,WORDS->bj5,COLS->bj7,WORD->bka,DEEP->bkb,TOP->bkf,condTrees->bkl,textAnswer->bko,LONG->bkp,tableOf->bkv,TABLES->bkw,claimOf->bkx,CLAIMS->bky
open Vadtta.Cell renaming gone->bnx,tree->bn1
open Vadtta.Claim renaming table->i3,tables->my,good->qx,fixes->bj2,refers->bj3,groups->bj4,tree->bnz
open Vadtta.Column renaming mk->aj6,has->bkj,tree->bku
open Vadtta.Cond renaming cols->mz,holds->Q1,tree->aj9,less->bnk,same->bnl,gone->bnm,not_->bnn,and_->bno,or_->bnp
open Vadtta.Exp renaming cols->tf,eval->aw3,add->bnq,sub->bnr,tree->bny
open Vadtta.Kind renaming up->bj6,of_->bnv
open Vadtta.Store renaming find->bw,put->cw
open Vadtta.Table renaming row->VL,hasCols->bj8,colNo->bn2
open Vadtta.Tree renaming word->er,write->V3,list->bn0
open Vadtta.Tree.list renaming injEq->bnu
open Vadtta.Tree.num renaming injEq->bns
open Vadtta.Tree.word renaming injEq->bnt
open Vadttd renaming does->gf,lower->iw,without->jm,Kept->jo,State->jq,historyOf->kz,fine->lb,step->o6,insert->yu,turnTree->J7,nats->J8,turnsOf->KA,insertAll->NG,Book->NO,Turn->NP,LEVELS->RA,takeFor->VN,before->ajy,putFor->aj3,PAST->akb,isRefusal->akc,putRow->akd,nat->ake,takeRow->akg,fired->axp,rowIn->bkz,start->bk3
open Vadttd.Kept renaming broken->V4
open VadttdNeutral renaming bytes->i5,step->va,ok->wo,natural->KC,asked1->bk1,whole60->bk2,callOf->bn4,start->bn6,asked->bn7
open _root_ renaming List->ab,Option->ah,Nat->ai,if_pos->aj,Int->ak,if_neg->ao,Bool->a4,absurd->cj,congrArg->eh,of_decide_eq_true->ff,decide_eq_false->gi,decide_eq_true->gm,beq_self_eq_true->gp,False->il,beq_eq_false_iff_ne->i8,if_true->jk,String->qf,beq_iff_eq->qh,not_or->sk,decide_eq_true_iff->tq,Array->yf,if_false->yg,decide_eq_true_eq->ym,decide_eq_decide->yx,UInt8->NM,DecidableEq->QB,or_false->VC,bne_iff_ne->aj4,Decidable->ava,decide_false->bjx
noncomputable section
open Lean Parser Tactic Command in
set_option hygiene false in
local macro_rules
|`($m:declModifiers def $i:declId $s:optDeclSig $v:declVal)=>if m.raw.getArgs.all (·.isNone) then if (match i.raw[0].getId with|.str _ s=>s.front.isLower|_=>false) then `(theorem $i:declId $(⟨mkNode ``declSig #[s.raw[0],s.raw[1][0]]⟩):declSig $v:declVal) else `(noncomputable def $i:declId $s:optDeclSig $v:declVal) else Macro.throwUnsupported
|`(tactic|show $e)=>`(tactic|refine $e)
|`(tactic|ext $p*)=>return mkNode ``renameI #[mkAtom "rename_i",mkNullNode (p.map λx=>mkNode ``binderIdent #[if x.raw[0][0].isIdent then x.raw[0][0] else mkNode ``Term.hole #[mkAtom "_"]])]
|`(tactic|delta $x:ident $[$l:location]?)=>`(tactic|unfold $x:ident $[$l:location]?)
|`(tactic|k_lt $h:ident)=>`(tactic|split at $h:ident)
|`(tactic|w_top $h:ident)=>`(tactic|try exact nn $h)
|`(tactic|walk)=>`(tactic|simp_all)
|`(tactic|let $d:letDecl)=>
 let p:=d.raw[0]
 if p.isOfKind ``Term.letPatDecl then return mkNode ``obtain #[mkAtom "obtain",mkNullNode #[mkNode ``rcasesPatMed #[mkNullNode #[rcp 9 p[0]]]],mkNullNode,mkNullNode #[mkAtom ":=",mkNullNode #[p[4]]]] else `(tactic|have $d:letDecl)
|`(tactic|rwa[$r,*] $[$l:location]?)=>
 let x:TSyntaxArray ``simpLemma:=r.getElems.map λy=>⟨mkNode ``simpLemma #[mkNullNode,y.raw[0],y.raw[1]]⟩
 `(tactic|simp only[$x,*] $[$l:location]?)
|`(tactic|erw[$r,*])=>
 let x:=r.getElems
 `(tactic|(rw[$(x.pop),*];refine $(⟨x.back!.raw[1]⟩)))
|`(lay_x $x*)=>return mkNullNode (<-x.mapM λi=>`(noncomputable def $(mkIdent (.mkSimple ("t"++i.getId.toString))):ident:=0))
section
variable{j k l m:Sort _}{P Q R S T Z:Prop}{A B C D E:j->Prop}{F G H I J K:j->k->Prop}{L M N O U:j->k->l->Prop}{s t u v w x y:j->k->l->m->Prop}
def aar:P->∀a,A a->B a->P/\∃a,A a/\B a:=λp a q r=>⟨p,a,q,r⟩
def rh:P->∀a b,F a b->G a b->P/\∃a b,F a b/\G a b:=λp a b q r=>⟨p,a,b,q,r⟩
def ap:∀a,A a->B a->∃a,A a/\B a:=λa p q=>⟨a,p,q⟩
def et:∀a,A a->B a->C a->∃a,A a/\B a/\C a:=λa p q r=>⟨a,p,q,r⟩
def wq:∀a,A a->B a->C a->D a->∃a,A a/\B a/\C a/\D a:=λa p q r i=>⟨a,p,q,r,i⟩
def ki:∀a,A a->B a->C a->D a->E a->∃a,A a/\B a/\C a/\D a/\E a:=λa p q r i n=>⟨a,p,q,r,i,n⟩
def lx:∀a,A a->B a->∀b,F a b->∃a,A a/\B a/\∃b,F a b:=λa p q b r=>⟨a,p,q,b,r⟩
def m9:∀a b,F a b->∃a b,F a b:=λa b p=>⟨a,b,p⟩
def gk:∀a b,F a b->G a b->∃a b,F a b/\G a b:=λa b p q=>⟨a,b,p,q⟩
def dq:∀a b,F a b->G a b->H a b->∃a b,F a b/\G a b/\H a b:=λa b p q r=>⟨a,b,p,q,r⟩
def ic:∀a b,F a b->G a b->H a b->I a b->∃a b,F a b/\G a b/\H a b/\I a b:=λa b p q r i=>⟨a,b,p,q,r,i⟩
def jx:∀a b,F a b->G a b->H a b->I a b->J a b->∃a b,F a b/\G a b/\H a b/\I a b/\J a b:=λa b p q r i n=>⟨a,b,p,q,r,i,n⟩
def aas:∀a b,F a b->G a b->H a b->I a b->J a b->K a b->∃a b,F a b/\G a b/\H a b/\I a b/\J a b/\K a b:=λa b p q r i n o=>⟨a,b,p,q,r,i,n,o⟩
def aat:∀a b c,L a b c->M a b c->∃a b c,L a b c/\M a b c:=λa b c p q=>⟨a,b,c,p,q⟩
def zb:∀a b c,L a b c->M a b c->N a b c->∃a b c,L a b c/\M a b c/\N a b c:=λa b c p q r=>⟨a,b,c,p,q,r⟩
def o7:∀a b c,L a b c->M a b c->N a b c->O a b c->∃a b c,L a b c/\M a b c/\N a b c/\O a b c:=λa b c p q r i=>⟨a,b,c,p,q,r,i⟩
def aau:∀a b c,L a b c->M a b c->N a b c->O a b c->U a b c->∃a b c,L a b c/\M a b c/\N a b c/\O a b c/\U a b c:=λa b c p q r i n=>⟨a,b,c,p,q,r,i,n⟩
def ac5:∀a b c d,s a b c d->t a b c d->u a b c d->v a b c d->∃a b c d,s a b c d/\t a b c d/\u a b c d/\v a b c d:=λa b c d p q r i=>⟨a,b,c,d,p,q,r,i⟩
def vb:∀a b c d,s a b c d->t a b c d->u a b c d->v a b c d->w a b c d->∃a b c d,s a b c d/\t a b c d/\u a b c d/\v a b c d/\w a b c d:=λa b c d p q r i n=>⟨a,b,c,d,p,q,r,i,n⟩
def ng:∀a b c d,s a b c d->t a b c d->u a b c d->v a b c d->w a b c d->x a b c d->y a b c d->∃a b c d,s a b c d/\t a b c d/\u a b c d/\v a b c d/\w a b c d/\x a b c d/\y a b c d:=λa b c d p q r i n o z=>⟨a,b,c,d,p,q,r,i,n,o,z⟩
def xA(h:P/\Q)(k:P->Q->Z):Z:=by let⟨p,q⟩:=h;show k p q
def d9(h:P/\Q/\R)(k:P->Q->R->Z):Z:=by let⟨p,q,r⟩:=h;show k p q r
def ly(h:P/\Q/\R/\S)(k:P->Q->R->S->Z):Z:=by let⟨p,q,r,i⟩:=h;show k p q r i
def jc(h:P/\Q/\R/\S/\T)(k:P->Q->R->S->T->Z):Z:=by let⟨p,q,r,i,n⟩:=h;show k p q r i n
def j5(h:P/\Q/\∃a,A a/\B a)(k:P->Q->∀a,A a->B a->Z):Z:=by let⟨p,q,a,r,i⟩:=h;show k p q a r i
def rj(h:P/\∃a,A a/\B a)(k:P->∀a,A a->B a->Z):Z:=by let⟨p,a,q,r⟩:=h;show k p a q r
def vd(h:P/\∃a b,F a b/\G a b)(k:P->∀a b,F a b->G a b->Z):Z:=by let⟨p,a,b,q,r⟩:=h;show k p a b q r
def j6(h:P/\∃a b,F a b/\G a b/\H a b)(k:P->∀a b,F a b->G a b->H a b->Z):Z:=by let⟨p,a,b,q,r,i⟩:=h;show k p a b q r i
def xE(h:∃a,A a)(k:∀a,A a->Z):Z:=by let⟨a,p⟩:=h;show k a p
def au(h:∃a,A a/\B a)(k:∀a,A a->B a->Z):Z:=by let⟨a,p,q⟩:=h;show k a p q
def bz(h:∃a,A a/\B a/\C a)(k:∀a,A a->B a->C a->Z):Z:=by let⟨a,p,q,r⟩:=h;show k a p q r
def lz(h:∃a,A a/\B a/\C a/\D a)(k:∀a,A a->B a->C a->D a->Z):Z:=by let⟨a,p,q,r,i⟩:=h;show k a p q r i
def zc(h:∃a,A a/\B a/\C a/\D a/\E a)(k:∀a,A a->B a->C a->D a->E a->Z):Z:=by let⟨a,p,q,r,i,n⟩:=h;show k a p q r i n
def j7(h:∃a,A a/\B a/\∃b,F a b)(k:∀a,A a->B a->∀b,F a b->Z):Z:=by let⟨a,p,q,b,r⟩:=h;show k a p q b r
def iy(h:∃a b,F a b)(k:∀a b,F a b->Z):Z:=by let⟨a,b,p⟩:=h;show k a b p
def jd(h:∃a b,F a b/\G a b)(k:∀a b,F a b->G a b->Z):Z:=by let⟨a,b,p,q⟩:=h;show k a b p q
def b7(h:∃a b,F a b/\G a b/\H a b)(k:∀a b,F a b->G a b->H a b->Z):Z:=by let⟨a,b,p,q,r⟩:=h;show k a b p q r
def fg(h:∃a b,F a b/\G a b/\H a b/\I a b)(k:∀a b,F a b->G a b->H a b->I a b->Z):Z:=by let⟨a,b,p,q,r,i⟩:=h;show k a b p q r i
def lg(h:∃a b,F a b/\G a b/\H a b/\I a b/\J a b)(k:∀a b,F a b->G a b->H a b->I a b->J a b->Z):Z:=by let⟨a,b,p,q,r,i,n⟩:=h;show k a b p q r i n
def j8(h:∃a b c,L a b c/\M a b c)(k:∀a b c,L a b c->M a b c->Z):Z:=by let⟨a,b,c,p,q⟩:=h;show k a b c p q
def kj(h:∃a b c,L a b c/\M a b c/\N a b c)(k:∀a b c,L a b c->M a b c->N a b c->Z):Z:=by let⟨a,b,c,p,q,r⟩:=h;show k a b c p q r
def fh(h:∃a b c,L a b c/\M a b c/\N a b c/\O a b c)(k:∀a b c,L a b c->M a b c->N a b c->O a b c->Z):Z:=by let⟨a,b,c,p,q,r,i⟩:=h;show k a b c p q r i
def rl(h:∃a b c d,s a b c d/\t a b c d/\u a b c d/\v a b c d)(k:∀a b c d,s a b c d->t a b c d->u a b c d->v a b c d->Z):Z:=by let⟨a,b,c,d,p,q,r,i⟩:=h;show k a b c d p q r i
def nh(h:∃a b c d,s a b c d/\t a b c d/\u a b c d/\v a b c d/\w a b c d)(k:∀a b c d,s a b c d->t a b c d->u a b c d->v a b c d->w a b c d->Z):Z:=by let⟨a,b,c,d,p,q,r,i,n⟩:=h;show k a b c d p q r i n
def lh(h:∃a b c d,s a b c d/\t a b c d/\u a b c d/\v a b c d/\w a b c d/\x a b c d/\y a b c d)(k:∀a b c d,s a b c d->t a b c d->u a b c d->v a b c d->w a b c d->x a b c d->y a b c d->Z):Z:=by let⟨a,b,c,d,p,q,r,i,n,o,z⟩:=h;show k a b c d p q r i n o z
end
def yL{p:Prop}(h:p:=by lia):p:=h
def yS{p:Prop}(h:p:=by simp):p:=h
def yD{p:Prop}(h:p:=by decide):p:=h
def yA{p:Prop}(h:p:=by walk):p:=h
def yT{p:Prop}(h:p:=by trivial):p:=h
namespace L2
open PySem PySem.Spec PyProof.Rows
structure NY(p:Prop):Prop where f:p->il
theorem QY(h:NY p->il):p:=UG λa=>h ⟨a⟩
inductive BSo{α β}(x:ah α)(f:α->ah β)(b:β):Prop|mk(a:α)(h:x=aa a)(k:f a=aa b):BSo x f b
def ay{j q}{x:ah j}{f}{b:q}(h:x.bind f=aa b):BSo x f b:=by
 cases x with
 |none=>trivial
 |some a=>show⟨a,rfl,h⟩
inductive MSo{α β}(x:ah α)(f:α->β)(b:β):Prop|mk(a:α)(h:x=aa a)(k:f a=b):MSo x f b
def bo{j q}{x}{f:j->q}{b}(h:x.map f=aa b):MSo x f b:=by
 cases x with
 |none=>trivial
 |some a=>show⟨a,rfl,fo h⟩
abbrev Key:=Sum ak Str
def D4:Key->a6->a4
 |.inl k,v=>Y1 k v
 |.inr x,v=>Y2 x v
def ACO(w:c9):Key->ak
 |.inl k=>hashInt k
 |.inr x=>hashStr w x
def o8:∀{k}{v},D4 k v=ae->(∃i t,k=ml i/\v=aut i t)\/(∃x t,k=xu x/\v=bf8 x t)
 |.inl i,v,h=>by let⟨t,e⟩:=Value.isInt_shape h;show .inl (gk i t rfl e)
 |.inr x,v,h=>by let⟨t,e⟩:=Value.isStrOf_shape h;show .inr (gk x t rfl e)
def afd(i)(t):D4 (.inl i) (.int i t)=true:=by simp[D4,Y1]
def afe(x)(t):D4 (.inr x) (.str x t)=true:=by simp[D4,Y2]
def axu(a b):decide ((ml a:Key)=ml b)=(a==b):=by lia
def axv(a b):decide ((xu a:Key)=xu b)=decide (a=b):=by simp
def axw(a:ak)(b:Str):decide (ml a=xu b)=false:=gi (λq=>nomatch q)
def axx(a:Str)(b:ak):decide (xu a=ml b)=false:=gi (λq=>nomatch q)
def B8(prog:de)(w:c9):PySem.KeyKind prog w Key where
 is:=D4
 hash:=ACO w
 inj:=λv a b ha hb=>by
  obtain⟨i,t,rfl,rfl⟩|⟨x,t,rfl,rfl⟩:=o8 ha
  .obtain⟨j,u,rfl,e⟩|⟨y,u,rfl,e⟩:=o8 hb;.injection e with e1 _;rw[e1]
   .show nomatch e
  .obtain⟨j,u,rfl,e⟩|⟨y,u,rfl,e⟩:=o8 hb;.show nomatch e
   .injection e with e1 _;rw[e1]
 byValue:=λk v h=>by obtain⟨i,t,rfl,rfl⟩|⟨x,t,rfl,rfl⟩:=o8 h<;>rfl
 pyHash:=λhv h=>by
  obtain⟨i,t,rfl,rfl⟩|⟨x,t,rfl,rfl⟩:=o8 hv;.show wpAny_pyHash_int h
  .show wpAny_pyHash_str h
 eqBool:=λhu hv h=>by
  obtain⟨i,t,rfl,rfl⟩|⟨x,t,rfl,rfl⟩:=o8 hu
  .obtain⟨j,u,rfl,rfl⟩|⟨y,u,rfl,rfl⟩:=o8 hv;.rw[axu]at h;show wpAny_eqBool_int h
   .rw[axw]at h;show bf9 i t y u _ _ _ _ h
  .obtain⟨j,u,rfl,rfl⟩|⟨y,u,rfl,rfl⟩:=o8 hv;.rw[axx]at h;show bga x t j u _ _ _ _ h
   .rw[axv]at h;show wpAny_eqBool_str h
 «strs»:=λk x t v h=>by
  obtain⟨i,u,rfl,e⟩|⟨y,u,rfl,e⟩:=o8 h;.show nomatch e
  .injection e with e1 _;subst e1;cases v<;>rfl
def axy(prog)(w)(i)(t):(B8 prog w).is (.inl i) (.int i t)=true:=afd i t
def axz(prog)(w)(x)(t):(B8 prog w).is (.inr x) (.str x t)=true:=afe x t
inductive V where
 |bj|bl(b:a4)|int(i:ak)|str(x:Str)|ref(a:Addr)|ty(n:qf)
 deriving QB
def RelV:V->a6->Prop
 |.bj,u=>u=QC
 |.bl b,u=>u=xw b
 |.int i,u=>∃t,u=aut i t
 |.str x,u=>∃t,u=bf8 x t
 |.ref a,u=>u=ko a
 |.ty n,u=>u=UI n
abbrev Vals:ab V->ab a6->Prop:=Paired RelV
def Vals.length(r:Vals xs us):xs.length=us.length:=UJ r
def Vals.get:∀{xs}{us}{i:ai}{x},Vals xs us->xs[i]?=aa x->∃u,us[i]?=aa u/\RelV x u
 |_,_,_,_,.nil,e=>yT
 |_,_,0,_,.cons r _,e=>yA
 |_,_,i+1,x,.cons _ t,e=>by show au (Vals.get t (by simpa using e)) λu Z h2=>?_;walk
def Vals.set(r:RelV x u):∀{xs}{us}(i),Vals xs us->Vals (xs.set i x) (us.set i u)
 |_,_,_,.nil=>.nil
 |_,_,0,.cons _ t=>.cons r t
 |_,_,i+1,.cons q t=>.cons q (Vals.set r i t)
def Vals.append{xs ys us j}(h:Vals xs us)(s:Vals ys j):Vals (xs++ys) (us++j):=by
 induction h with
 |nil=>show s
 |cons r _ i=>show .cons r i
def Vals.take:∀{xs}{us}(n),Vals xs us->Vals (xs.take n) (us.take n)
 |_,_,0,_=>.nil
 |_,_,_+1,.nil=>.nil
 |_,_,n+1,.cons r t=>.cons r (Vals.take n t)
def Vals.drop:∀{xs}{us}(n),Vals xs us->Vals (xs.drop n) (us.drop n)
 |_,_,0,r=>r
 |_,_,_+1,.nil=>.nil
 |_,_,n+1,.cons _ t=>Vals.drop n t
def EL:ah V->ah a6->Prop
 |some v,aa u=>RelV v u
 |none,af=>True
 |_,_=>il
def KV{κ:Type}:ab (κ×V)->ab (κ×a6)->Prop:=Paired λp q=>p.1=q.1/\RelV p.2 q.2
noncomputable def kV:Key->V
 |.inl i=>.int i
 |.inr x=>.str x
inductive HO where
 |lst(xs:ab V)
 |tup(xs:ab V)
 |dK(kvs:ab (Key×V))
 |ins(C dx:Addr)(fs:ab (Str×V))
 |own(x:Addr)
 |AN(o:Obj)(u:HO)
 |ext(φ:Heap->Prop)
abbrev Hp:=Addr->ah HO
noncomputable def upd(H:Hp)(a:Addr)(o:HO):Hp:=λb=>if b=a then aa o else H b
def cy:upd H a o a=aa o:=by simp[upd]
def a9(h:b≠a):upd H a o b=H b:=by simp_all[upd]
def akk{H:Hp}{a b}{o u}(h:H a=aa o)(h':H b=aa u)(d:o≠u):a≠b:=by lia
def fw{H:Hp}{a b}{o}(h:H a=aa o)(h':H b=af):a≠b:=by lia
section
variable(P:de)(w:c9)
def CB(H:Hp)(h:Heap)(a:Addr):HO->Prop
 |.lst xs=>xs.length<=aw/\∃U n,Vals xs U/\h.get? a=aa {cls:=.type "list",data:=.seq U.toArray n}
 |.tup xs=>xs.length<=aw/\∃U:ab a6,Vals xs U/\MH h a U.toArray
 |.dK kvs=>kvs.length<=aw/\(a==sf)=ag/\∃vs,KV kvs vs/\h.DictOf (B8 P w) a vs
 |.ins C dx fs=>H dx=aa (.own a)/\fs.length<=1000/\dx≠a/\h.get? a=aa (QD C dx)/\
  ∃mA,h.Ns1 dx mA/\(∀f,EL (fs.lookup f) (mA f))/\auu mA (fs.map (·.1))
 |.own _=>∃o,h.get? a=aa o
 |.AN o u=>h.get? a=aa o/\CB H h a u
 |.ext j=>j h/\(∃o,h.get? a=aa o)/\∀Z h2:Heap,j Z->(∀o,Z.get? a=aa o->h2.get? a=aa o)->j h2
def CH(H:Hp)(h:Heap):Prop:=∀a o,H a=aa o->CB P w H h a o
end
section
variable{P:de}{w:c9}{H H':Hp}{h h':Heap}{a:Addr}{o:HO}
def CB.lt(x:CB P w H h a o):a<h.objs.size:=by
 cases o with
 |lst xs=>show vd x λ_ _ _ _ e=>ec e
 |tup xs=>show rj x λ_ _ _ p=>p.lt
 |dK kvs=>show j5 x λ_ _ _ _ j=>j8 j λo _ _ e _=>ec e
 |ins C dx fs=>show jc x λ_ _ _ e _=>ec e
 |own y=>let⟨_,e⟩:=x;show ec e
 |AN q u=>show ec x.1
 |ext W=>let⟨_,⟨_,e⟩,_⟩:=x;show ec e
def CB.t5(x:CB P w H h a o)(k:∀b u,(b=a\/H b=aa (.own a))->h.get? b=aa u->h'.get? b=aa u)
 (ho:∀b,H b=aa (.own a)->H' b=aa (.own a)):CB P w H' h' a o:=by
 induction o with
 |lst xs=>show vd x λz U n r e=>rh z U n r (k _ _ (.inl rfl) e)
 |tup xs=>let⟨z,U,r,ob,e,c⟩:=x;show⟨z,U,r,ob,k _ _ (.inl rfl) e,c⟩
 |dK kvs=>show j5 x λz y vs r j=>j8 j λob es ep e c=>⟨z,y,vs,r,ob,es,ep,k _ _ (.inl rfl) e,c⟩
 |ins C dx fs=>show jc x λd z ne e W=>au W λmA zq25_2 r=>j8 zq25_2 λod es ep e2 c=>⟨ho _ d,z,ne,k _ _ (.inl rfl) e,mA,(aat od es ep (k _ _ (.inr d) e2) c),r⟩
 |own y=>let⟨ob,e⟩:=x;show⟨ob,k _ _ (.inl rfl) e⟩
 |AN ob u ih=>show⟨k _ _ (.inl rfl) x.1,ih x.2⟩
 |ext φ=>let⟨p,⟨o,e⟩,st⟩:=x;show⟨st _ _ p λo q=>k _ _ (.inl rfl) q,⟨o,k _ _ (.inl rfl) e⟩,st⟩
section
variable(x:CH P w H h)
include x
def CH.lt(e:H a=aa o):a<h.objs.size:=(x a o e).lt
def CH.fresh(e:h.objs.size<=a):H a=none:=by
 cases q:H a with
 |none=>rfl
 |some u=>show cj (jf (x.lt q) e) (xy _)
def CH.kept(k:∀b u,h.get? b=aa u->h'.get? b=aa u):CH P w H h':=λa o e=>
 (x a o e).t5 (λb u j q=>k b u q) λj q=>q
def CH.laid(k:∀b u,h.get? b=aa u->h'.get? b=aa u)(hp:h.objs.size<=a)(new:CB P w (upd H a o) h' a o):CH P w (upd H a o) h':=λb u e=>by
 by_cases hb:b=a;.grind[cy]
 .rw[a9 hb]at e;show(x b u e).t5 (λc v ζ q=>k c v q) λc q=>by rw[a9 (fw q (x.fresh hp))];omega
end
end
def Rd(H:Hp)(a:Addr)(u:HO):Prop:=H a=aa u\/∃o,H a=aa (.AN o u)
def Rd.ok(r:Rd H a u)(x:CH P w H h):CB P w H h a u:=by
 obtain r|⟨o,r⟩:=r;.show x a u r
 .let⟨_,q⟩:=x a _ r;omega
def IJ:ah HO->Prop
 |some (.lst _)=>True
 |some (.dK _)=>True
 |some (.ins _ _ _)=>True
 |some (.ext _)=>True
 |_=>il
section
variable{P:de}{w:c9}{H:Hp}{h h':Heap}{x e:Addr}{o':HO}
def CH.write(ok:CH P w H h)(mu:IJ (H x))(he:e=x\/H e=aa (.own x))(k:∀b u,b≠e->h.get? b=aa u->h'.get? b=aa u)(heo:∃u,h'.get? e=aa u)
 (new:CB P w (upd H x o') h' x o'):CH P w (upd H x o') h':=λb u q=>by
 let nown:∀c y,H c=aa (.own y)->c≠x:=λc y r z=>by subst z;rw[r]at mu;show mu
 by_cases hb:b=x;.grind[cy]
 .rw[a9 hb]at q;by_cases hbe:b=e
  .let q':H b=aa (.own x):=by lia
   rw[q]at q';injection q' with q';subst q';let⟨v,hv⟩:=heo;show⟨v,yL⟩
  .show(ok b u q).t5 (λc v hc r=>k c v ?_ r) λc r=>by erw[a9 (nown c b r),r]
   grind
end
structure Un(fs ex:ab Addr)(H H':Hp)(h h':Heap):Prop where
 keep:∀b o,h.get? b=aa o->H b=af->b∉fs->b∉ex->h'.get? b=aa o
 slot:∀b o,h.get? b=aa o->H b=af->b∈fs->b∉ex->∃sl,h'.get? b=aa {o with slots:=sl}
 free:∀b o,h.get? b=aa o->H b=af->b∉ex->H' b=af
 there:∀b o,h.get? b=aa o->b∉ex->∃o',h'.get? b=aa o'
 rm:∀b o u,H b=aa (.AN o u)->H' b=aa (.AN o u)
section
variable{fs fs' ex ex':ab Addr}{H Y H2:Hp}{h Z h2 h':Heap}{a x e:Addr}{o:HO}
def Un.any(u:Un fs ex H Y h Z)(q:h.get? b=aa ob)(n:H b=af)(hx:b∉ex):∃sl,Z.get? b=aa {ob with slots:=sl}:=by
 by_cases hb:b∈fs;.show u.slot b ob q n hb hx
 .show⟨ob.slots,u.keep b ob q n hb hx⟩
def Un.kept(k:∀b u,h.get? b=aa u->h'.get? b=aa u):Un fs ex H H h h':=
 ⟨λb W q j j j=>k b W q,λb W q j j j=>⟨W.slots,k b W q⟩,λj j j n j=>n,λb W q j=>⟨W,k b W q⟩,λj j j q=>q⟩
def Un.refl:Un fs ex H H h h:=Un.kept λj j q=>q
def Un.laid(k:∀b u,h.get? b=aa u->h'.get? b=aa u)(hp:h.objs.size<=a)(hn:H a=af):Un fs ex H (upd H a o) h h' where
 keep:=λb u q ζ ζ ζ=>k b u q
 slot:=λb u q ζ ζ ζ=>⟨u.slots,k b u q⟩
 free:=λb u q n ζ=>by rw[a9 (g9 (jf (ec q) hp))];omega
 there:=λb u q ζ=>⟨u,k b u q⟩
 rm:=λb u xs q=>by rw[a9 (fw q hn)];omega
def Un.write(mu:IJ (H x))(he:e=x\/H e=aa (.own x))(k:∀b u,b≠e->h.get? b=aa u->h'.get? b=aa u)(heo:∃u,h'.get? e=aa u):Un fs ex H (upd H x o) h h':=by
 let hx:∀b,H b=af->b≠x:=λb n z=>by subst z;rw[n]at mu;show mu
 let W:∀b,H b=af->b≠e:=λb n z=>by lia
 let hm:∀b u,H b=aa u->¬IJ (aa u)->b≠x:=λb u q nm z=>yL;show⟨λb u q n j j=>k b u (W b n) q,λb u q n j j=>⟨u.slots,k b u (W b n) q⟩,λb u q n j=>by rw[a9 (hx b n)];omega,λb u q j=>?_,
  λb u xs q=>by rw[a9 (hm b _ q λz=>z)];omega⟩;grind
end
noncomputable def trk(h:Heap)(H:Hp):ab Addr:=(e6 h.objs.size).filter λa=>(H a).isSome
def KD(h:Heap)(H:Hp):Heap:=PySem.W.hideAll h (trk h H)
def ax0(h)(H):(KD h H).objs.size=h.objs.size:=PySem.W.hideAll_size _ _
def ax1{H}{b}{o}(e:h.get? b=aa o)(n:H b=af):(KD h H).get? b=aa o:=
 PySem.W.hideAll_get _ e λhm=>by let q:=(iu.mp hm).2;walk
def ax2(e:(KD h H).get? b=aa o):h.get? b=aa o/\H b=none:=by
 let j:=PySem.W.of_hideAll _ e;show⟨j,?_⟩;cases q:H b with
 |none=>rfl
 |some x=>let z:(KD h H).get? b=none:=PySem.W.hideAll_none _ (iu.mpr ⟨ka.mpr (ec j),by simp[q]⟩);lia
structure Mod(K:ba)(mg:Str->ah a6)(base:Heap):Prop where
 RB:K.In base
 glob:base.Ns kq mg
 blt:∃mb,base.Ns auv mb/\∀x:Str,x≠"__name__"->mb x=MI x
 nolimit:base.NoLimit
structure Cx where
 prog:de
 w:c9
 K:ba
 mg:Str->ah a6
 base:Heap
 A:jg
 N:ab Str
 jr:cu
 zd:Hp
 env:Env
 outer:ab Env
 stack:ab Env
 ex:ab Addr
 fn:Str->a4
 calm:a4
 pn:ab (Addr×Obj)
 xe:a6->cu->Prop
def FZ(l:ab Env):ab Addr:=l.filterMap (·.frame)
abbrev Cx.fs(X:Cx):ab Addr:=FZ X.outer
def KG(sc:cz)(x:Str):Prop:=sc.names.lookup x=aa .local\/sc.names.lookup x=aa .cell\/sc.names.lookup x=aa .free
def Loc(sc:cz)(x:Str):Prop:=sc.names.lookup x=aa .local\/sc.names.lookup x=aa .cell
def Look(env:Env)(h:Heap)(m:Str->ah a6)(x:Str)(u:a6):Prop:=
 (env.kindOf x=aa .local/\m x=aa u)\/((env.kindOf x=aa .cell\/env.kindOf x=aa .free)/\∃c,env.cells.lookup x=aa c/\h.IsCell c (aa u))
structure Cx.Ok(X:Cx):Prop where
 mod:Mod X.K X.mg X.base
 kind:X.env.scope.kind=.function
 glob:X.env.globals=kq
 blt:X.env.builtins=auv
 above:X.jr.heap.objs.size<=X.env.locals
 inj:∀x y c,X.env.cells.lookup x=aa c->X.env.cells.lookup y=aa c->x=y
 has:∀x,(X.env.kindOf x=aa .cell\/X.env.kindOf x=aa .free)->∃c,X.env.cells.lookup x=aa c
 NT:∀x c,X.fn x=ae->X.env.cells.lookup x=aa c->X.jr.heap.objs.size<=c
 hd:X.calm=ae->X.A.handled=af
 frames:X.A.frames=aa X.stack
 gg:X.stack=X.outer\/(X.stack=X.env::X.outer/\X.env.frame=aa X.env.locals)
 RC:∀b∈X.ex,b≠X.env.locals/\∀x c,X.env.cells.lookup x=aa c->c≠b
 bs:∀b o,X.base.get? b=aa o->X.jr.heap.get? b=aa o/\X.zd b=af
 vf:X.base.objs.size<=X.jr.heap.objs.size
 NU:∀b o,X.base.get? b=aa o->b∉X.ex
 NV:∀b∈X.ex,b∉X.fs
 eg:X.jr.heap.FunFrames X.base X.outer
 ze:∀b∈X.fs,X.zd b=af
structure Inv(X:Cx)(pins:ab (Addr×Obj))(B:ab (ah V))(H:Hp)(s:cu):Prop where
 ok:X.Ok
 os:s.os=X.jr.os
 bare:MJ s.gens
 base:Un X.fs X.ex X.zd H X.jr.heap s.heap
 loc:∃m,s.heap.Ns X.env.locals m/\∀(i:ai)x(v:V),X.N[i]?=aa x->B[i]?=aa (aa v)->KG X.env.scope x->∃u,RelV v u/\Look X.env s.heap m x u
 cell:∀x c,X.env.cells.lookup x=aa c->∃v,s.heap.IsCell c v
 free:H X.env.locals=af
 ni:∀x c,X.env.cells.lookup x=aa c->H c=af
 pin:∀p∈X.pn++pins,s.heap.get? p.1=aa p.2/\H p.1=af/\p.1≠X.env.locals/\p.1∉X.fs/\∀v,p.2.data≠.cell v
 bu:CH X.prog X.w H s.heap
 len:B.length=X.N.length
section
variable{X:Cx}{pins:ab (Addr×Obj)}{B:ab (ah V)}{H H':Hp}{s:cu}{h':Heap}
def Cx.Ok.ax3(ok:X.Ok)(e:X.base.get? b=aa o):b∉X.fs:=λj=>by let:=(ok.eg.mem j).1;lia
section
variable(I:Inv X pins B H s)
include I
def Inv.bs:∀b o,X.base.get? b=aa o->s.heap.get? b=aa o/\H b=none:=λb o e=>
 ⟨I.base.keep b o (I.ok.bs b o e).1 (I.ok.bs b o e).2 (I.ok.ax3 e) (I.ok.NU b o e),I.base.free b o (I.ok.bs b o e).1 (I.ok.bs b o e).2 (I.ok.NU b o e)⟩
def Inv.bk:∀b o,X.base.get? b=aa o->s.heap.get? b=aa o:=λb o e=>(I.bs b o e).1
def Inv.mod:Mod X.K X.mg X.base:=I.ok.mod
def Inv.gh:X.K.In s.heap:=I.ok.mod.RB.keeps I.bk
def Inv.lt:X.env.locals<s.heap.objs.size:=au I.loc λ_ j _=>j.lt
def Inv.sz:X.jr.heap.objs.size<=s.heap.objs.size:=jh I.ok.above (sg I.lt)
def Inv.ax4(h:s.heap.objs.size<=a):a∉X.fs:=λj=>rj (I.ok.eg.mem j) λ_ o ho _=>cj (jf (ec ho) (jh I.sz h)) (xy _)
def Inv.zf:∀x c,X.env.cells.lookup x=aa c->c≠X.env.locals:=λx c e z=>by show jd (I.cell x c e) λv o ho hd=>au I.loc λm j _=>kj j λo' es ep q W _=>?_;lia
def Inv.eg:s.heap.FunFrames X.base X.outer:=by
 let all:∀l,(∀b∈FZ l,b∈X.fs)->X.jr.heap.FunFrames X.base l->s.heap.FunFrames X.base l:=by
  intro l;induction l with
  |nil=>intro _ _;trivial
  |cons env r ih=>show λhs hl=>d9 hl λhk j hr=>fg j λL o hf hn ho hd=>?_;let q:=hs L (by simp_all[FZ]);let⟨sl,e⟩:=I.base.slot L o ho (I.ok.ze L q) q λz=>I.ok.NV L z q;show⟨hk,(ic L _ hf hn e hd),ih (λb W=>hs b (by delta FZ;erw[bgb,hf,dj _ W])) hr⟩
 show all X.outer (λζ W=>W) I.ok.eg
def Inv.stack:s.heap.FunFrames X.base X.stack:=by
 obtain e|⟨e,hf⟩:=I.ok.gg;.erw[e,I.eg]
 .erw[e,au I.loc λm j _=>.cons (by rw[I.ok.kind];simp) hf j (Heap.get?_none_of_le (jh I.ok.vf I.ok.above)) I.eg]
def Inv.aff:∀b∈FZ X.stack,b∈X.env.locals::X.fs:=λb j=>by
 obtain e|⟨e,hf⟩:=I.ok.gg;.walk
 simp_all[FZ]
def Inv.akl:∀b∈FZ X.stack,H b=none:=λb j=>by
 obtain e|j:=df.mp (I.aff b j);.erw[e,I.free]
 .show rj (I.ok.eg.mem j) λ_ o ho _=>I.base.free b o ho (I.ok.ze b j) λz=>I.ok.NV b z j
end
def Inv.step{ch:ab Addr}(I:Inv X pins B H s)
 (hch:∀b∈ch,(b∈X.ex\/X.jr.heap.objs.size<=b)/\b≠X.env.locals/\(∀x c,X.env.cells.lookup x=aa c->c≠b)/\∀p∈X.pn++pins,p.1≠b)
 (keep:∀b o,b≠X.env.locals->b∉X.fs->b∉ch->s.heap.get? b=aa o->H b=af->h'.get? b=aa o)
 (slot:∀b o,b≠X.env.locals->b∈X.fs->b∉ch->s.heap.get? b=aa o->H b=af->∃sl,h'.get? b=aa {o with slots:=sl})(W:∀b o,b∉ch->s.heap.get? b=aa o->H b=af->H' b=af)
 (there:∀b o,b∉ch->s.heap.get? b=aa o->∃o',h'.get? b=aa o')
 (rm:∀b o u,H b=aa (.AN o u)->H' b=aa (.AN o u))
 (ns:∀m,s.heap.Ns X.env.locals m->h'.Ns X.env.locals m)(bu:CH X.prog X.w H' h')(hg:MJ g'):
 Inv X pins B H' {s with heap:=h',gens:=g',drawn:=d',toks:=t'}:=by
 let neL:∀b o,X.jr.heap.get? b=aa o->b≠X.env.locals:=λb o e=>g9 (jf (ec e) I.ok.above);let neC:∀b o,X.jr.heap.get? b=aa o->b∉X.ex->b∉ch:=λb o e j hb=>by
  obtain z|z:=(hch b hb).1;.show j z
  .show cj (jf (ec e) z) (xy _)
 let cellK:∀x c,X.env.cells.lookup x=aa c->∀v,s.heap.IsCell c v->h'.IsCell c v:=λx c e v zq62_1=>au zq62_1 λo ho hd=>by
  let nch:=λz=>(hch c z).2.2.1 x c e rfl;by_cases hc:c∈X.fs;.let⟨sl,q⟩:=slot c o (I.zf x c e) hc nch ho (I.ni x c e);show ap _ q hd
  .show ap o (keep c o (I.zf x c e) hc nch ho (I.ni x c e)) hd
 show⟨I.ok,I.os,hg,⟨λb o e n hb j=>keep b o (neL b o e) hb (neC b o e j) (I.base.keep b o e n hb j) (I.base.free b o e n j),λb o e n hb j=>?_,λb o e n j=>?_,λb o e j=>?_,λb o xs e=>rm b o xs (I.base.rm b o xs e)⟩,?_,λx c e=>?_,au I.loc λm zq45_1 _=>j8 zq45_1 λo _ _ ho _=>W _ o (λz=>(hch _ z).2.1 rfl) ho I.free,λx c e=>jd (I.cell x c e) λv o ho hd=>W c o (λz=>(hch c z).2.2.1 x c e rfl) ho (I.ni x c e),λp hp=>?_,bu,I.len⟩;.let⟨sl,e1⟩:=I.base.slot b o e n hb j;let⟨sl',e2⟩:=slot b _ (neL b o e) hb (neC b o e j) e1 (I.base.free b o e n j);show⟨sl',e2⟩
 .let⟨o',e1⟩:=I.base.there b o e j;show W b o' (neC b o e j) e1 (I.base.free b o e n j)
 .let⟨o',e1⟩:=I.base.there b o e j;show there b o' (neC b o e j) e1
 .show au I.loc λm hn hl=>ap m (ns m hn) λi x v e1 e2 e3=>au (hl i x v e1 e2 e3) λu r l=>ap u r ?_;obtain l|⟨k,c,e,z⟩:=l;.show .inl l
  .show .inr (aar k c e (cellK x c e _ z))
 .let⟨v,z⟩:=I.cell x c e;show⟨v,cellK x c e v z⟩
 .show jc (I.pin p hp) λe n ne nf d=>?_;let nch:=λz=>(hch p.1 z).2.2.2 p hp rfl;show⟨keep p.1 p.2 ne nf nch e n,W p.1 p.2 nch e n,ne,nf,d⟩
section
variable(I:Inv X pins B H s)
include I
def Inv.un(u:Un X.fs [] H H' s.heap h')(bu:CH X.prog X.w H' h'):Inv X pins B H' {s with heap:=h',toks:=t'}:=by show au (id I.loc) λm j _=>j8 j λo es ep ho r=>?_;let⟨sl,hL⟩:=u.any ho I.free yS;show I.step (ch:=[]) (λq z=>nomatch z) (λb o q hb q e n=>u.keep b o e n hb yS) (λb o q hb q e n=>u.slot b o e n hb yS) (λb o q e n=>u.free b o e n yS) (λb o q e=>u.there b o e yS) u.rm (λm' hm=>by show j8 hm λo' es' ep' W r'=>?_;rw[ho]at W;obtain rfl:=fo W;show aat _ es' ep' hL r') bu I.bare
def Inv.call(u:Un (FZ X.stack) ch H H' s.heap h')(bu:CH X.prog X.w H' h')(hg:MJ g')
 (q:∀b∈ch,(b∈X.ex\/X.jr.heap.objs.size<=b)/\b≠X.env.locals/\(∀x c,X.env.cells.lookup x=aa c->c≠b)/\∀p∈X.pn++pins,p.1≠b):
 Inv X pins B H' {s with heap:=h',gens:=g',drawn:=d',toks:=t'}:=by show au (id I.loc) λm j _=>j8 j λo es ep ho r=>?_;let⟨sl,hL⟩:=u.any ho I.free λz=>(q _ z).2.1 rfl;show I.step q (λb o hL hb hc e n=>u.keep b o e n (λz=>(df.mp (I.aff b z)).elim hL hb) hc) (λb o ζ ζ hc e n=>u.any e n hc) (λb o hc e n=>u.free b o e n hc) (λb o hc e=>u.there b o e hc) u.rm (λm' hm=>by show j8 hm λo' es' ep' W r'=>?_;rw[ho]at W;obtain rfl:=fo W;show aat _ es' ep' hL r') bu hg
def Inv.turned(k:∀b o,b≠W->s.heap.get? b=aa o->h'.get? b=aa o)(hn:H W=af)(hL:W≠X.env.locals)
 (Z:W∈X.ex\/X.jr.heap.objs.size<=W)(h2:∀x c,X.env.cells.lookup x=aa c->c≠W)(h3:∀p∈X.pn++pins,p.1≠W):Inv X pins B H {s with heap:=h',toks:=t'}:=by
 let nit:∀b u,H b=aa u->b≠W:=λb u e z=>yL;show I.step (ch:=[W]) (λb hb=>?_) (λb o j j hc e j=>k b o (λz=>hc (by simp[z])) e) (λb o j j hc e j=>⟨o.slots,k b o (λz=>hc (by simp[z])) e⟩) (λj j j j n=>n)
  (λb o hc e=>⟨o,k b o (λz=>hc (by simp[z])) e⟩) (λj j j e=>e) (λm hm=>j8 hm λo es ep ho r=>aat o es ep (k _ o (ji hL) ho) r) (λb u e=>?_) I.bare
 .let e:=by simpa using hb
  subst e;show⟨Z,hL,h2,h3⟩
 .show(I.bu b u e).t5 (λc v hc q=>k c v ?_ q) λj q=>q;lia
def Inv.tok(t):Inv X pins B H {s with toks:=t}:=I.un Un.refl I.bu
def Inv.kept(k:∀b u,s.heap.get? b=aa u->h'.get? b=aa u):Inv X pins B H {s with heap:=h',toks:=t'}:=I.un (Un.kept k) (I.bu.kept k)
def Inv.laid(k:∀b u,s.heap.get? b=aa u->h'.get? b=aa u)(hp:s.heap.objs.size<=a)(j:CB X.prog X.w (upd H a o) h' a o):
 Inv X pins B (upd H a o) {s with heap:=h',toks:=t'}:=I.un (Un.laid k hp (I.bu.fresh hp)) (I.bu.laid k hp j)
def Inv.write(mu:IJ (H x))(he:e=x\/H e=aa (.own x))(k:∀b u,b≠e->s.heap.get? b=aa u->h'.get? b=aa u)(j:∃u,h'.get? e=aa u)
 (q:CB X.prog X.w (upd H x o) h' x o):Inv X pins B (upd H x o) {s with heap:=h',toks:=t'}:=I.un (Un.write mu he k j) (I.bu.write mu he k j q)
def Inv.weak(hl:j.length=B.length)(w:∀(i:ai)v,j[i]?=aa (aa v)->B[i]?=aa (aa v)):Inv X pins j H s:=
 ⟨I.ok,I.os,I.bare,I.base,au I.loc λm W q=>(ap m W (λi x v e1 e2 e3=>q i x v e1 (w i v e2) e3)),I.cell,I.free,I.ni,I.pin,I.bu,hl.trans I.len⟩
def Inv.akm(h:∀p∈j,s.heap.get? p.1=aa p.2/\H p.1=af/\p.1≠X.env.locals/\p.1∉X.fs/\∀v,p.2.data≠.cell v):Inv X j B H s:=
 ⟨I.ok,I.os,I.bare,I.base,I.loc,I.cell,I.free,I.ni,λp hp=>(sh.mp hp).elim (λz=>I.pin p (JL _ z)) (h p),I.bu,I.len⟩
end
def afg{N:ab Str}(q:N.Nodup){i j:ai}(a:N[i]?=aa x)(b:N[j]?=aa x):i=j:=(List.getElem_inj q).mp ((x9.mp a).2.trans (x9.mp b).2.symm)
def akn{E}{i}{x}{v}{u}{Q}(I:Inv X pins B H s)(hN:X.N.Nodup)(hi:X.N[i]?=aa x)(hx:Loc X.env.scope x)(r:RelV v u)
 (h:∀s',Inv X pins (B.set i (aa v)) H s'->(∃a,JM a s.heap s'.heap/\(a=X.env.locals\/X.env.cells.lookup x=aa a))->Q () s')(hf:X.fn x=ae\/X.env.scope.names.lookup x=aa .local):ax M A (storeName X.env x u) Q E s:=by
 have⟨m,hn,hl⟩:=id I.loc;let hiσ:i<B.length:=by erw[I.len,(x9.mp hi).1]
 let zf:=I.zf;let tracked:∀{a:Addr}{h':Heap},(∃o,s.heap.get? a=aa o/\H a=af)->JM a s.heap h'->CH X.prog X.w H h':=fun{a h'}ha W b ob e=>by
  obtain⟨-,-,hfree⟩:=ha;show(I.bu b ob e).t5 (λc w' hc q=>(W.2 c ?_).trans q) λζ q=>q;rintro rfl;obtain rfl|hc:=hc;.rw[hfree]at e;trivial
  .rw[hfree]at hc;trivial
 obtain hk|hk:=hx
 .show wpAny_storeName_local hk hn (λh' hn' W=>?_) (by rw[I.ok.kind];rfl);obtain⟨oL,-,-,hoL,-⟩:=id hn;show h _ ⟨I.ok,I.os,I.bare,⟨λb o e n hb hx=>(W.2 b (g9 (jf (ec e) I.ok.above))).trans (I.base.keep b o e n hb hx),λb o e n hb hx=>?_,I.base.free,λb o e hx=>?_,I.base.rm⟩,(ap _ hn' (λj y v' e1 e2 e3=>?_)),λy c e=>?_,I.free,I.ni,λp hp=>?_,tracked (ap oL hoL I.free) W,by simpa using I.len⟩ (ap _ W (.inl rfl));.let⟨sl,e1⟩:=I.base.slot b o e n hb hx;show⟨sl,(W.2 b (g9 (jf (ec e) I.ok.above))).trans e1⟩
  .let⟨o',e1⟩:=I.base.there b o e hx;show⟨o',(W.2 b (g9 (jf (ec e) I.ok.above))).trans e1⟩
  .by_cases hj:j=i;.subst hj;rw[hi]at e1;cases e1;rw[QE hiσ]at e2;cases e2;show ap u r (.inl ⟨hk,yS⟩)
   .rw[ir (ji hj)]at e2;let⟨u',r',q⟩:=hl j y v' e1 e2 e3;show ap u' r' ?_;obtain⟨k,e⟩|⟨k,c,e,z⟩:=q;.show .inl ⟨k,?_⟩;let:y≠x:=λe=>hj (afg hN e1 (e▸hi));simp[this,e]
    .show .inr ⟨k,c,e,z.sameBut W (zf y c e)⟩
  .let⟨w',z⟩:=I.cell y c e;show⟨w',z.sameBut W (zf y c e)⟩
  .let⟨e,n,ne,nf,d⟩:=I.pin p hp;show⟨(W.2 p.1 ne).trans e,n,ne,nf,d⟩
 .let hfn:X.fn x=true:=by
   obtain z|z:=hf;.show z
   .rw[z]at hk;trivial
  let⟨c,hc⟩:=I.ok.has x (.inl hk);let⟨w',z⟩:=I.cell x c hc;show wpAny_storeName_cell I.ok.kind hk hc z (λh' hc' W=>?_);have⟨oc,hoc,hocd⟩:=id z;show h {s with heap:=h'} ⟨I.ok,I.os,I.bare,⟨λb o e n hb hx=>(W.2 b (g9 (jf (ec e) (I.ok.NT x c hfn hc)))).trans (I.base.keep b o e n hb hx),λb o e n hb hx=>?_,I.base.free,λb o e hx=>?_,I.base.rm⟩,(ap m (hn.sameBut W (ji (zf x c hc))) (λj y v' e1 e2 e3=>?_)),λy c' e=>?_,I.free,I.ni,λp hp=>?_,tracked (ap oc hoc (I.ni x c hc)) W,by simpa using I.len⟩ (ap c W (.inr hc));.let⟨sl,e1⟩:=I.base.slot b o e n hb hx;show⟨sl,(W.2 b (g9 (jf (ec e) (I.ok.NT x c hfn hc)))).trans e1⟩
  .let⟨o',e1⟩:=I.base.there b o e hx;show⟨o',(W.2 b (g9 (jf (ec e) (I.ok.NT x c hfn hc)))).trans e1⟩
  .by_cases hj:j=i;.subst hj;rw[hi]at e1;cases e1;rw[QE hiσ]at e2;cases e2;show ap u r (.inr ⟨.inl hk,c,hc,hc'⟩)
   .rw[ir (ji hj)]at e2;let⟨u',r',q⟩:=hl j y v' e1 e2 e3;show ap u' r' ?_;obtain q|⟨k,c',e,z'⟩:=q;.show .inl q
    .show .inr ⟨k,c',e,z'.sameBut W ?_⟩;rintro rfl;show hj (afg hN e1 (I.ok.inj _ _ _ e hc▸hi))
  .by_cases hcc:c'=c;.subst hcc;show⟨_,hc'⟩
   .let⟨w2,z2⟩:=I.cell y c' e;show⟨w2,z2.sameBut W hcc⟩
  .let⟨e,n,ne,nf,d⟩:=I.pin p hp;show⟨(W.2 p.1 ?_).trans e,n,ne,nf,d⟩;intro q;rw[q,hoc]at e;show d w' (by erw[<-(fo e),hocd])
def ako{E}{i}{x}{v}{u}{Q}(I:Inv X pins B H s)(j:X.N.Nodup)(hi:X.N[i]?=aa x)(q:Loc X.env.scope x)(r:RelV v u)
 (h:∀s',Inv X pins (B.set i (aa v)) H s'->Q () s')(hf:X.fn x=ae\/X.env.scope.names.lookup x=aa .local):ax M A (storeName X.env x u) Q E s:=
 akn I j hi q r (λs' W ζ=>h s' W) hf
def Inv.ax5(I:Inv X pins B H s)(ho:s'.os=s.os)(u:Un (FZ X.stack) ch H H' s.heap s'.heap)(j:CH X.prog X.w H' s'.heap)(hg:MJ s'.gens)
 (q:∀b∈ch,(b∈X.ex\/X.jr.heap.objs.size<=b)/\b≠X.env.locals/\(∀x c,X.env.cells.lookup x=aa c->c≠b)/\∀p∈X.pn++pins,p.1≠b):Inv X pins B H' s':=by let⟨h',W,d',t',o'⟩:=s';subst ho;show I.call u j hg q
end
abbrev XK:=a6->ah Addr->Hp->Prop
abbrev St:=ab (ah V)
abbrev VK:=V->Hp->Prop
abbrev TE:=St->Hp->VK->Prop
abbrev TT:=St->Hp->(a4->Hp->Prop)->Prop
abbrev TA:=St->Hp->(ab V->Hp->Prop)->Prop
structure Ends where
 nx:St->Hp->Prop
 rt:VK
abbrev TS:=Ends->St->Hp->Prop
inductive EP(X:Cx)(pins:ab (Addr×Obj))(B:St)(Q:VK)(u:a6)(s':cu):Prop|mk(v:V)(H':Hp)(I:Inv X pins B H' s')(r:RelV v u)(q:Q v H'):EP X pins B Q u s'
inductive TP(X:Cx)(pins:ab (Addr×Obj))(B:St)(Q:a4->Hp->Prop)(b:a4)(s':cu):Prop|mk(H':Hp)(I:Inv X pins B H' s')(q:Q b H'):TP X pins B Q b s'
inductive AP(X:Cx)(pins:ab (Addr×Obj))(B:St)(Q:ab V->Hp->Prop)(us:ab a6)(s':cu):Prop|mk(vs:ab V)(H':Hp)(I:Inv X pins B H' s')(r:Vals vs us)(q:Q vs H'):AP X pins B Q us s'
def SP(X:Cx)(pins:ab (Addr×Obj))(D:Ends)(f:Flow)(s':cu):Prop:=
 match f with
 |.next=>∃j H',Inv X pins j H' s'/\D.nx j H'
 |.ret u=>∃v j H',Inv X pins j H' s'/\RelV v u/\D.rt v H'
 |_=>il
def PE(X:Cx)(e:Expr)(t:TE):Prop:=
 ∀pins s B H Q,Inv X pins B H s->t B H Q->ax (az X.prog X.w) X.A (eval e X.env) (EP X pins B Q) X.xe s
def PT(X:Cx)(e:Expr)(t:TT):Prop:=
 ∀pins s B H Q,Inv X pins B H s->t B H Q->ax (az X.prog X.w) X.A (uk e X.env (eval e X.env)) (TP X pins B Q) X.xe s
def PW(X:Cx)(e:Expr)(t:TT):Prop:=
 ∀j pins s B H Q,Inv X pins B H s->t B H Q->ax (az X.prog X.w) X.A (uk e X.env j) (TP X pins B Q) X.xe s
def PA(X:Cx)(es:ab Expr)(t:TA):Prop:=
 ∀pos pins s B H Q,Inv X pins B H s->t B H Q->ax (az X.prog X.w) X.A (spliced (kb pos (ed es X.env))) (AP X pins B Q) X.xe s
def PS(X:Cx)(st:Stmt)(t:TS):Prop:=
 ∀pins s B H D,Inv X pins B H s->t D B H->ax (az X.prog X.w) X.A (exec st X.env) (SP X pins D) X.xe s
def B9(X:Cx)(st:ab Stmt)(t:TS):Prop:=
 ∀pins s B H D,Inv X pins B H s->t D B H->ax (az X.prog X.w) X.A (execs st X.env) (SP X pins D) X.xe s
def bg{Q j}(h:ax M A t Q E s)(q:∀a s,Q a s->j a s):ax M A t j E s:=mm h q λW W x=>x
section
variable{X:Cx}
inductive NW(i:ai)(B:St)(H:Hp)(Q:VK):Prop|mk(v)(h0:B[i]?=aa (aa v))(Z:Q v H):NW i B H Q
noncomputable def tC(v:V):TE:=λj H Q=>Q v H
def js(hN:X.N[i]?=aa x)(hv:KG X.env.scope x)(hd:(x==("__debug__":Str))=false:=by decide)(hcd:(x==("__classdict__":Str))=false:=by decide):PE X (.Name x pos) (NW i):=by
 show λpins s B H Q I h=>QY λz=>?_;let⟨v,e,h⟩:=h;show au I.loc λm hn hl=>?_;let⟨u,r,l⟩:=hl i x v hN e hv;let q:EP X pins B Q u s:=⟨v,H,I,r,h⟩;obtain⟨W,hm⟩|⟨W,c,hc,j⟩:=l;.apply z.f;show auw (wpAny_loadName_local I.ok.kind W hn hm q) hd
 .obtain W|W:=W;.apply z.f;show auw (wpAny_loadName_cell I.ok.kind W hc j q) hd
  .apply z.f;show auw (wpAny_loadName_free I.ok.kind W hc j q hcd) hd
def abm{i j pos}:PE X (.Constant (.int i) j pos) (tC (.int i)):=λq q q H q I h=>wpAny_Constant_int ⟨.int i,H,I.tok _,⟨_,rfl⟩,h⟩
def ax6{b j pos}:PE X (.Constant (.bool b) j pos) (tC (.bl b)):=λq q q H q I h=>Constant_bool ⟨.bl b,H,I,rfl,h⟩
def akp{j pos}:PE X (.Constant .none j pos) (tC .bj):=λq q q H q I h=>Constant_none ⟨.bj,H,I,rfl,h⟩
def ax7{x j pos}:PE X (.Constant (.str x) j pos) (tC (.str x)):=λq q q H q I h=>Y3 ⟨.str x,H,I.tok _,⟨_,rfl⟩,h⟩
def Gl(X:Cx)(x:Str):Prop:=X.env.kindOf x=aa .globalImplicit
def ac6{pins}{s}{B:St}{H}{x}{u}{pos}{Q}(I:Inv X pins B H s)(hg:Gl X x)(hm:X.mg x=aa u)(h:Q u s)
 (hd:(x==("__debug__":Str))=false:=by decide):ax (az X.prog X.w) X.A (eval (.Name x pos) X.env) Q E s:=
 bgc I.ok.kind hg (Calls.loadGlobal_global (by erw[I.ok.glob,I.mod.glob.keeps I.bk]) hm h) hd
def o9{E}{pins}{s}{B:St}{H}{x}{u}{pos}{Q}(I:Inv X pins B H s)(hg:Gl X x)(hm:X.mg x=af)(j:MI x=aa u)(h:Q u s)
 (q:x≠"__name__":=by decide)(hd:(x==("__debug__":Str))=false:=by decide):ax (az X.prog X.w) X.A (eval (.Name x pos) X.env) Q E s:=by show au I.mod.blt λW Z h2=>bgc I.ok.kind hg (Calls.loadGlobal_builtin (by erw[I.ok.glob,I.mod.glob.keeps I.bk]) hm (by erw[I.ok.blt,Z.keeps I.bk]) ((h2 x q).trans j) h) hd
def akq(hg:Gl X x)(hm:X.mg x=aa u)(r:RelV v u)(hd:(x==("__debug__":Str))=false:=by decide):PE X (.Name x pos) (tC v):=
 λj j j H j I h=>ac6 I hg hm ⟨v,H,I,r,h⟩ hd
def afh(hg:Gl X x)(hm:X.mg x=af)(q:MI x=aa u)(r:RelV v u)(W:x≠"__name__":=by decide)(hd:(x==("__debug__":Str))=false:=by decide):PE X (.Name x pos) (tC v):=
 λj j j H j I h=>o9 I hg hm q ⟨v,H,I,r,h⟩ W hd
variable{a b:Expr}{ta tb:TE}{pos:Pos}
inductive IB(Q:a4->Hp->Prop)(x:V)(H:Hp):Prop|mk(c)(h:x=.bl c)(q:Q c H):IB Q x H
noncomputable def tB(t:TE):TT:=λB H Q=>t B H (IB Q)
def akr(h:PE X e t)(he:∀j,uk e X.env j=(do let v<-j;UK e.pos;QF [v] (truthy v))):PT X e (tB t):=by show λpins s B H Q I W=>isTrue_plain (bg (h pins s B H _ I W) λv s1 z=>?_) (he _);let⟨x,Y,I1,r1,q1⟩:=z;let⟨d,rfl,q⟩:=q1;cases r1;show ul ⟨Y,I1,q⟩
variable{tA tB':TT}{rest:ab Expr}
def ACP(t u:TT):TT:=λB H Q=>t B H λc Y=>if c=ae then u B Y Q else Q ag Y
noncomputable def tOr(t u:TT):TT:=λB H Q=>t B H λc Y=>if c=ae then Q ae Y else u B Y Q
def ACQ(t:TT):TT:=λB H Q=>t B H λc Y=>Q (!c) Y
section
variable(ha:PT X a tA)
include ha
def aks:PW X (.BoolOp .And [a] pos) tA:=by
 show λj pins s B H Q I h=>isTrue_and (bg (ha pins s B H Q I h) λc q e=>?_);cases c with
 |true=>show isTrue_and_nil e
 |false=>show e
def ax8:PW X (.BoolOp .Or [a] pos) tA:=by
 show λj pins s B H Q I h=>isTrue_or (bg (ha pins s B H Q I h) λc q e=>?_);cases c with
 |false=>show isTrue_or_nil e
 |true=>show e
def akt(W:PW X (.BoolOp .And (b::rest) pos) tB'):PW X (.BoolOp .And (a::b::rest) pos) (ACP tA tB'):=by
 show λwh pins s B H Q I h=>isTrue_and (bg (ha pins s B H _ I h) λc s1 z=>?_);let⟨Y,j,q⟩:=z;cases c with
 |true=>show W wh pins s1 B Y Q j q
 |false=>show⟨Y,j,q⟩
def ax9(W:PW X (.BoolOp .Or (b::rest) pos) tB'):PW X (.BoolOp .Or (a::b::rest) pos) (tOr tA tB'):=by
 show λwh pins s B H Q I h=>isTrue_or (bg (ha pins s B H _ I h) λc s1 z=>?_);let⟨Y,j,q⟩:=z;cases c with
 |true=>show⟨Y,j,q⟩
 |false=>show W wh pins s1 B Y Q j q
def aku:PT X (.UnaryOp .Not a pos) (ACQ tA):=by show λpins s B H Q I h=>isTrue_not (bg (ha pins s B H _ I h) λc j z=>?_);cases z;constructor<;>assumption
end
def ACR(ta tb:TE):TE:=λB H Q=>ta B H λx Y=>∃c,x=.bl c/\if c=ae then tb B Y Q else Q (.bl ag) Y
def ACS(ta tb:TE):TE:=λB H Q=>ta B H λx Y=>∃c,x=.bl c/\if c=ae then Q (.bl ae) Y else tb B Y Q
def ACT(ta:TE):TE:=λB H Q=>ta B H λx Y=>∃c,x=.bl c/\Q (.bl (!c)) Y
def akv{op}(h:PE X a t):PE X (.BoolOp op [a] pos) t:=λpins s B H Q I j=>BoolOp_one (h pins s B H Q I j)
def aya(ha:PE X a ta)(W:PE X (.BoolOp .And (b::rest) pos) tb):PE X (.BoolOp .And (a::b::rest) pos) (ACR ta tb):=by
 show λpins s B H Q I h=>BoolOp_and (bg (ha pins s B H _ I h) λv s1 z=>?_);let⟨x,Y,q,r1,j⟩:=z;let⟨c,rfl,j⟩:=j;cases r1;show ul ?_;cases c with
 |true=>show W pins s1 B Y Q q j
 |false=>show⟨.bl ag,Y,q,rfl,j⟩
def ayb(ha:PE X a ta)(W:PE X (.BoolOp .Or (b::rest) pos) tb):PE X (.BoolOp .Or (a::b::rest) pos) (ACS ta tb):=by
 show λpins s B H Q I h=>BoolOp_or (bg (ha pins s B H _ I h) λv s1 z=>?_);let⟨x,Y,q,r1,j⟩:=z;let⟨c,rfl,j⟩:=j;cases r1;show ul ?_;cases c with
 |false=>show W pins s1 B Y Q q j
 |true=>show⟨.bl ae,Y,q,rfl,j⟩
def ayc(ha:PE X a ta):PE X (.UnaryOp .Not a pos) (ACT ta):=by show λpins s B H Q I h=>UnaryOp_ (bg (ha pins s B H _ I h) λv W z=>?_);let⟨x,Y,q,r1,j⟩:=z;let⟨c,rfl,j⟩:=j;cases r1;show not_of (ul ⟨.bl _,Y,q,rfl,j⟩)
noncomputable def tIf(t:TT)(ta tb:TE):TE:=λB H Q=>t B H λc Y=>if c=ae then ta B Y Q else tb B Y Q
def ac7(hc:PT X c tA)(ha:PE X a ta)(hb:PE X b tb):PE X (.IfExp c a b pos) (tIf tA ta tb):=by
 show λpins s B H Q I h=>wpAny_IfExp (bg (hc pins s B H _ I h) λd j z=>?_);let⟨Y,q,W⟩:=z;cases d with
 |true=>show ha pins j B Y Q q W
 |false=>show hb pins j B Y Q q W
end
def AR(K:ba)(H:Hp)(a:Addr)(xs:ab V):Prop:=
 Rd H a (.lst xs)\/
  ∃o U n,K.lookup a=aa o/\o.cls=.type "list"/\o.dict=af/\o.data=.seq U n/\U.size<=aw/\Vals xs U.toList
def AS(K:ba)(H:Hp)(a:Addr)(xs:ab V):Prop:=
 Rd H a (.tup xs)\/
  ∃o U n,K.lookup a=aa o/\o.cls=.type "tuple"/\o.data=.seq U n/\U.size<=aw/\Vals xs U.toList
def ACU:a6->ah V
 |.none=>aa .bj
 |.bool b=>aa (.bl b)
 |.int i _=>aa (.int i)
 |.str x _=>aa (.str x)
 |.ref a=>aa (.ref a)
 |.type n=>aa (.ty n)
 |_=>af
def RelV.abs(r:RelV x u):ACU u=aa x:=by
 cases x with
 |bj=>cases r;rfl
 |bl _=>cases r;rfl
 |int _=>let⟨t,rfl⟩:=r;rfl
 |str _=>let⟨t,rfl⟩:=r;rfl
 |ref _=>cases r;rfl
 |ty _=>cases r;rfl
def RelV.inj(r:RelV x u)(q:RelV y u):x=y:=fo (r.abs.symm.trans q.abs)
def Vals.inj{xs us}(h:Vals xs us):∀{ys},Vals ys us->xs=ys:=by
 induction h with
 |nil=>intro _ g;cases g;rfl
 |cons r _ i=>intro _ g;cases g with|cons q u=>rw[r.inj q,i u]
section
variable{X:Cx}{pins:ab (Addr×Obj)}{B:St}{H:Hp}{s:cu}{a:Addr}{xs ys:ab V}
def AR.of{K}(h:H a=aa (.lst xs)):AR K H a xs:=.inl (.inl h)
section
variable(I:Inv X pins B H s)
include I
def Inv.list(h:AR X.K H a xs):∃U:ab a6,Vals xs U/\PlainL s.heap a U.toArray/\xs.length<=sizeLine:=by
 obtain h|⟨o,U,n,j,hc,hd,q,hz,r⟩:=h;.show vd (h.ok I.bu) λz U n r e=>et U r (ic _ n e rfl rfl rfl) z
 .show et U.toList r (ic o n (I.gh a o j) hc hd (by omega)) ?_;let e:=r.length;walk
def Inv.tuple(h:AS X.K H a xs):∃U:ab a6,Vals xs U/\MH s.heap a U.toArray/\xs.length<=sizeLine:=by
 obtain h|⟨o,U,n,j,hc,q,hz,r⟩:=h;.show rj (h.ok I.bu) λz U r p=>et U r p z
 .show et U.toList r (lx o (I.gh a o j) hc n (by omega)) ?_;let e:=r.length;walk
def Inv.abn(h:AR X.K H a xs)(h':AR X.K H a ys):xs=ys:=by
 show bz (I.list h) λU r j _=>fg j λo n e _ _ d=>?_;obtain⟨W,r',⟨o',n',q,-,-,d'⟩,-⟩:=I.list h';rw[e]at q;injection q with q;subst q;rw[d]at d';injection d' with d1 _;let:=by simpa using eh bgd d1
 subst this;show r.inj r'
def Inv.wt(h:AS X.K H a xs)(h':AS X.K H a ys):xs=ys:=by
 obtain⟨U,r,⟨o,e,-,n,d⟩,-⟩:=I.tuple h;obtain⟨q,r',⟨o',j,-,n',W⟩,-⟩:=I.tuple h';rw[e]at j;injection j with j;subst j;rw[d]at W;injection W with d1 _;let:=by simpa using eh bgd d1
 subst this;show r.inj r'
end
end
abbrev Cx.t6(X:Cx)(E:a6->cu->Prop):Cx:={X with xe:=E}
abbrev Cx.nj(X:Cx):Cx:=X.t6 λj j=>il
def Cx.Ok.t6{X:Cx}(ok:X.Ok)(E):(X.t6 E).Ok:=
 ⟨ok.mod,ok.kind,ok.glob,ok.blt,ok.above,ok.inj,ok.has,ok.NT,ok.hd,ok.frames,ok.gg,ok.RC,ok.bs,ok.vf,ok.NU,ok.NV,ok.eg,ok.ze⟩
def Cx.Ok.aav{X:Cx}(ok:(X.t6 E).Ok):X.Ok:=
 ⟨ok.mod,ok.kind,ok.glob,ok.blt,ok.above,ok.inj,ok.has,ok.NT,ok.hd,ok.frames,ok.gg,ok.RC,ok.bs,ok.vf,ok.NU,ok.NV,ok.eg,ok.ze⟩
section
variable{X:Cx}{pins:ab (Addr×Obj)}{B:St}{H:Hp}{s:cu}{E:a6->cu->Prop}
def Inv.t6(I:Inv X pins B H s)(E):Inv (X.t6 E) pins B H s:=⟨I.ok.t6 E,I.os,I.bare,I.base,I.loc,I.cell,I.free,I.ni,I.pin,I.bu,I.len⟩
def Inv.aav(I:Inv (X.t6 E) pins B H s):Inv X pins B H s:=⟨I.ok.aav,I.os,I.bare,I.base,I.loc,I.cell,I.free,I.ni,I.pin,I.bu,I.len⟩
def SP.aav(h:SP (X.t6 E) pins D f s'):SP X pins D f s':=by
 cases f with
 |next=>let⟨j,H',I,q⟩:=h;show gk j H' I.aav q
 |ret u=>show kj h λv j H' I r q=>zb v j H' I.aav r q
 |_=>show h
def B9.nj{st}(h:B9 X.nj st t):B9 X st t:=λpins s B H D I W=>
 mm (h pins s B H D (I.t6 _) W) (λj j q=>q.aav) λj j z=>ya z
end
section
variable{X:Cx}{st:Stmt}{rest:ab Stmt}{t u:TS}{e:Expr}{te:TE}{pos:Pos}
def V7:TS:=λD B H=>D.nx B H
def RD(t u:TS):TS:=λD B H=>t {D with nx:=u D} B H
def afi:B9 X [] V7:=λj j B H j I h=>Y4 (gk B H I h)
def j9(Z:PS X st t)(h2:B9 X rest u):B9 X (st::rest) (RD t u):=by
 show λpins s B H D I h=>UL (bg (Z pins s B H {D with nx:=u D} I h) λf W q=>?_);cases f with
 |next=>show jd q λj H' I' q=>h2 pins W j H' D I' q
 |_=>show q
def zg(Z:PS X st t):B9 X [st] t:=by
 show λpins s B H D I h=>UL (bg (Z pins s B H D I h) λf j q=>?_);cases f with
 |next=>show Y4 q
 |_=>omega
def ayd:PS X (.Pass pos) V7:=λj j B H j I h=>wpAny_Pass (gk B H I h)
def Inv.quiet(I:Inv X pins B H s):interactive X.env=false:=by simp[interactive,I.ok.kind]
def aye{x j pos pos'}:PS X (.Expr (.Constant (.str x) j pos) pos') V7:=λq s B H q I h=>wpAny_Expr (Y3 ((gk B H (I.tok _) h))) I.quiet
def ACV(te:TE):TS:=λD B H=>te B H λj Y=>D.nx B Y
def vg(he:PE X e te)(j:uo e af pos.line X.env=pure false:=by rfl):PS X (.Expr e pos) (ACV te):=by show λpins s B H D I h=>wpAny_Expr_any (bg (he pins s B H _ I h) λv s1 z=>?_) I.quiet j;let⟨x,Y,q,r1,W⟩:=z;show gk B Y q W
def ACW(te:TE):TS:=λD B H=>te B H D.rt
def abo(he:PE X e te):PS X (.Return (aa e) pos) (ACW te):=by show λpins s B H D I h=>wpAny_Return_some (bg (he pins s B H _ I h) λv W z=>?_);let⟨x,Y,j,r1,q⟩:=z;show zb x B Y j r1 q
def ACX:TS:=λD j H=>D.rt .bj H
def akw:PS X (.Return af pos) ACX:=λj j B H j I h=>wpAny_Return_none (zb (.bj) B H I rfl h)
def AAA(c:TT)(t u:TS):TS:=λD B H=>c B H λb Y=>if b=ae then t D B Y else u D B Y
def afj(hc:PT X c tc)(ha:B9 X a t)(hb:B9 X b u):PS X (.If c a b pos) (AAA tc t u):=by
 show λpins s B H D I h=>wpAny_If (bg (hc pins s B H _ I h) λd j z=>?_);let⟨Y,q,W⟩:=z;cases d with
 |true=>show ha pins j B Y D q W
 |false=>show hb pins j B Y D q W
end
abbrev TG:=V->St->Hp->(St->Hp->Prop)->Prop
abbrev RE:=ab V->St->Hp->(St->Hp->Prop)->Prop
def PG(X:Cx)(j:Expr)(t:TG):Prop:=
 ∀pins s B H v u Q,Inv X pins B H s->RelV v u->t v B H Q->
  ax (az X.prog X.w) X.A (assign j X.env u) (λW s'=>∃q H',Inv X pins q H' s'/\Q q H') X.xe s
def RF(X:Cx)(ts:ab Expr)(t:RE):Prop:=
 ∀pins s B H vs us Q,Inv X pins B H s->Vals vs us->t vs B H Q->
  ax (az X.prog X.w) X.A (assignInOrder ((UM ts X.env).map (·.2)) us) (λq s'=>∃j H',Inv X pins j H' s'/\Q j H') X.xe s
abbrev akx:=V->V->V->Hp->(Hp->Prop)->Prop
def AAB(X:Cx)(t:akx):Prop:=
 ∀pins s B H o i v j q u Q,Inv X pins B H s->RelV o j->RelV i q->RelV v u->t o i v H Q->
  ax (az X.prog X.w) X.A (Y5 j q u) (λW s'=>∃H',Inv X pins B H' s'/\Q H') X.xe s
abbrev V8:=V->V->Hp->VK->Prop
def PIp(X:Cx)(op:auy)(t:V8):Prop:=
 ∀pins s B H x y v u Q,Inv X pins B H s->RelV x v->RelV y u->t x y H Q->
  ax (az X.prog X.w) X.A (inplaceOp op v u) (EP X pins B Q) X.xe s
section
variable{X:Cx}{pos:Pos}
def NX(i:ai):TG:=λv B H Q=>Q (B.set i (aa v)) H
def wu(j:X.N.Nodup)(hi:X.N[i]?=aa x)(q:Loc X.env.scope x)(hf:X.fn x=ae\/X.env.scope.names.lookup x=aa .local):PG X (.Name x pos) (NX i):=by show λpins s B H v u Q I r h=>bge (ako I j hi q r (λs' W=>(gk _ H W h)) hf)
def ACY:RE:=λvs B H Q=>vs=[]/\Q B H
inductive aky(t:TG)(u:RE)(vs:ab V)(B:St)(H:Hp)(Q:St->Hp->Prop):Prop|mk(v)(r)(h0:vs=v::r)(Z:t v B H λσ' H'=>u r σ' H' Q):aky t u vs B H Q
def afk:RF X [] ACY:=by show λpins s B H vs us Q I r h=>assignInOrder_nil (gk B H I h.2)
def aaw(Z:PG X e t)(h2:RF X es u)
 (q:(UM (e::es) X.env).map (·.2)=assign e X.env::(UM es X.env).map (·.2):=by rfl):RF X (e::es) (aky t u):=by
 show λpins s B H vs us Q I r h=>QY λw=>?_;let⟨v,vr,W,h⟩:=h;subst W;cases r with
 |cons r rr=>apply w.f;erw[q,assignInOrder_cons (bg (Z pins s B H _ _ _ I r h) λζ s1 z=>jd z λj Y I1 q1=>h2 pins s1 j Y _ _ Q I1 rr q1)]
inductive V9(K:ba)(n:ai)(t:RE)(v:V)(B:St)(H:Hp)(Q:St->Hp->Prop):Prop|mk(a)(xs)(h0:v=.ref a)(Z:AS K H a xs)(h2:xs.length=n)(h3:t xs B H Q):V9 K n t v B H Q
def afl{k}(hc:X.calm=ae)(h:RF X es t)
 (W:(UM es X.env).length=n:=by rfl)(j:(UM es X.env).findIdx? (·.1)=none:=by rfl):PG X (.Tuple es k pos) (V9 X.K n t):=by show λpins s B H v u Q I r q=>QY λz=>?_;let⟨a,xs,e1,hq,hl,q⟩:=q;subst e1;cases r;show bz (I.tuple hq) λU rv ht hz=>?_;apply z.f;show assign_Tuple_tuple (I.ok.hd hc) ht (by simp[W,<-hl,rv.length]) j λh' hx=>(h pins _ B H xs _ Q (I.kept λb o e=>hx b o (g9 (ec e)) e) (by omega) q)
def AAC(te:TE)(g:TG):TS:=λD B H=>te B H λx Y=>g x B Y D.nx
def nk(j:X.N.Nodup)(hi:X.N[i]?=aa x)(q:Loc X.env.scope x)(he:PE X e te)(W:uo e (aa (.Name x pos')) pos.line X.env=pure false:=by rfl)(hf:X.fn x=ae\/X.env.scope.names.lookup x=aa .local):
 PS X (.Assign [.Name x pos'] e pos) (AAC te (NX i)):=by show λpins s B H D I h=>wpAny_Assign_Name (bg (he pins s B H _ I h) λv s1 z=>?_) W;let⟨y,Y,I1,r1,q1⟩:=z;show ako I1 j hi q r1 (λs2 I2=>(gk _ Y I2 q1)) hf
def ACZ(to ti te:TE)(j:V->V->Hp->VK->Prop)(W:V8)(q:akx):TS:=λD B H=>to B H λo Y=>ti B Y λi H2=>j o i H2 λx H3=>te B H3 λy H4=>W x y H4 λz H5=>q o i z H5 λH6=>D.nx B H6
def AAD(X:Cx)(t:V->V->Hp->VK->Prop):Prop:=
 ∀pins s B H o i j q Q,Inv X pins B H s->RelV o j->RelV i q->t o i H Q->
  ax (az X.prog X.w) X.A (yb j q) (EP X pins B Q) X.xe s
def ayf(ho:PE X o to)(hi:PE X i ti)(hg:AAD X tget)(he:PE X e te)(hp:PIp X op tip)(hs:AAB X tset)
 (ha:∀q W j,augStore i q W j=(do QF [j,q,W] (Y5 q W j);release [j,q,W] [];pure .next)):PS X (.AugAssign (.Subscript o i tpos) op e pos) (ACZ to ti te tget tip tset):=by show λpins s B H D I h=>wpAny_AugAssign_SubscriptAny (bg (ho pins s B H _ I h) λq s1 z=>?_) ha;let⟨x1,Y,I1,r1,q1⟩:=z;show bg (hi pins s1 B Y _ I1 q1) λW s2 zz=>QY λw=>?_;let⟨x2,H2,I2,r2,q2⟩:=zz;apply w.f;show bg (hg pins s2 B H2 x1 x2 q W _ I2 r1 r2 q2) λold s3 z1=>?_;let⟨x3,H3,I3,r3,q3⟩:=z1;show bg (he pins s3 B H3 _ I3 q3) λv s4 z2=>?_;let⟨x4,H4,I4,r4,q4⟩:=z2;show bg (hp pins s4 B H4 x3 x4 old v _ I4 r3 r4 q4) λj s5 z3=>?_;let⟨x5,H5,I5,r5,q5⟩:=z3;show bg (hs pins s5 B H5 x1 x2 x5 q W j _ I5 r1 r2 r5 q5) λζ s6 z4=>au z4 λH6 I6 q6=>gk B H6 I6 q6
noncomputable def ipI(f:ak->ak->ak):V8:=λx y H Q=>∃i j,x=.int i/\y=.int j/\Q (.int (f i j)) H
def ayg:PIp X .Add (ipI λi j=>i+j):=by show λpins s B H x y v u Q I r1 r2 h=>b7 h λi j W e2 q=>?_;clear h;subst W;subst e2;let⟨t,rfl⟩:=r1;let⟨t',rfl⟩:=r2;show bgf ⟨.int _,H,I.tok _,⟨_,rfl⟩,q⟩
end
section
variable{X:Cx}{pos:Pos}
def AC0(c:TT)(tb:TS):TS:=λD B H=>∃W:ai->St->Hp->Prop,(∃m,W m B H)/\∀m B H,W m B H->
 c B H λb Y=>if b=ae then∃N:St->Hp->Prop,(∀j H',N j H'->∃q,q<m/\W q j H')/\tb {D with nx:=N} B Y else D.nx B Y
def ayh(hp:MK (az X.prog X.w) X.A X.env X.xe)(hc:PT X c tc)(hb:B9 X body tb):PS X (.While c body [] pos) (AC0 tc tb):=by
 show λpins s B H D I h=>au h λW j turn=>xE j λm0 w0=>wpAny_While (codeAny_whileLoop (λn s'=>∃σ' H',Inv X pins σ' H' s'/\W n σ' H') (λn s1 y0=>QY λq=>jd y0 λσ1 Y I1 w1=>?_) m0 (gk B H I w0));apply q.f;show ML hp (bg (hc pins s1 σ1 Y _ I1 (turn n σ1 Y w1)) λb s2 z=>?_);let⟨H2,I2,q2⟩:=z;cases b with
 |true=>
  show au q2 λN hN q2=>ML hp (bg (hb pins s2 σ1 H2 _ I2 q2) λf s3 q3=>?_);cases f with
  |next=>let⟨σ3,H3,I3,n3⟩:=q3;let⟨m',hm,w3⟩:=hN σ3 H3 n3;show⟨m',hm,σ3,H3,I3,w3⟩
  |ret v=>show q3
  |_=>show q3.elim
 |false=>show Y4 (gk σ1 H2 I2 q2)
end
structure It where
 go:ai->Hp->Prop
 k7:ai->Hp->V->Hp->Prop
 stop:ai->Hp->Prop
def FA(X:Cx)(pins:ab (Addr×Obj))(H:Hp)(b:Addr):Prop:=
 H b=af/\b≠X.env.locals/\b∉X.fs/\(b∈X.ex\/X.jr.heap.objs.size<=b)/\(∀x c,X.env.cells.lookup x=aa c->c≠b)/\∀p∈X.pn++pins,p.1≠b
def Inv.t7{pins}{B:St}{H H'}{s}{b:Addr}(I:Inv X pins B H s)(j:s.heap.objs.size<=b)(W:H' b=af):FA X pins H' b:=by show⟨W,uq (jf I.lt j),I.ax4 j,.inr (jh I.sz j),λx c e z=>?_,λp hp z=>cj (jf (ec (I.pin p hp).1) yA) (xy _)⟩;.let⟨v,q⟩:=I.cell x c e;show cj (jf q.lt yA) (xy _)
structure Turn(P:de)(w:c9)(K:ba)(tg:Expr)(J:It)(fp:ab Addr)(it:Addr)(tn:ai->Heap->Prop):Prop where
 mem:it∈fp
 obj:∀i h,tn i h->∀b∈fp,∃o,h.get? b=aa o/\∀v,o.data≠.cell v
 keep:∀i h h',tn i h->(∀b∈fp,∀o,h.get? b=aa o->h'.get? b=aa o)->tn i h'
 item:∀X,X.prog=P->X.w=w->X.K=K->X.calm=ae->∀i pins s B H E,Inv X pins B H s->(∀b∈fp,FA X pins H b)->tn i s.heap->J.go i H->
  ax (az P w) X.A (qg (.ref it)) (λr s1=>∃u,r=aa u/\
   ax (az P w) X.A (auz tg (.ref it) u) (λζ s2=>∃x H',Inv X pins B H' s2/\RelV x u/\J.k7 i H x H'/\tn (i+1) s2.heap/\∀b∈fp,H' b=af) E s1) E s
 done:∀X,X.prog=P->X.w=w->X.K=K->X.calm=ae->∀i pins s B H E,Inv X pins B H s->(∀b∈fp,FA X pins H b)->tn i s.heap->J.stop i H->
  ax (az P w) X.A (qg (.ref it)) (λr s1=>r=af/\Inv X pins B H s1) E s
 self:∀A i s Q E,tn i s.heap->Q (.ref it) s->ax (az P w) A (yc (.ref it)) Q E s
abbrev TI:=St->Hp->(It->Hp->Prop)->Prop
inductive zj(X:Cx)(pins:ab (Addr×Obj))(B:St)(tg:Expr)(R:It->Hp->Prop)(itv:a6)(s2:cu):Prop
 |mk(it:Addr)(fp:ab Addr)(tn:ai->Heap->Prop)(J:It)(H':Hp)(e:itv=.ref it)(I:Inv X pins B H' s2)(t:Turn X.prog X.w X.K tg J fp it tn)(z:tn 0 s2.heap)(k:∀b∈fp,FA X pins H' b)(r:R J H'):zj X pins B tg R itv s2
def PI(X:Cx)(tg iter:Expr)(j:TI):Prop:=
 ∀pins s B H R,Inv X pins B H s->j B H R->
  ax (az X.prog X.w) X.A (eval iter X.env) (λv q=>ax (az X.prog X.w) X.A (yc v) (zj X pins B tg R) X.xe q) X.xe s
def abp{E}{s}{tg}{q}{u}{o}{n}{vs}{Q}(ho:s.heap.get? q=aa o)(hc:o.cls=.type n)(hd:o.data=.fields vs)
 (W:["enumerate","zip","dict_itemiterator","dict_reverseitemiterator","odict_iterator","itertools.zip_longest","itertools.pairwise"].contains n=ag)(j:Q () s):ax M A (auz tg (.ref q) u) Q E s:=by
 cases tg<;>first
  |show b4 j
  |(cases u<;>first
     |show b4 j
     |(show aq (wpAny_load ho ?_);rw[hc,hd];change ax M A (if(["enumerate","zip","dict_itemiterator","dict_reverseitemiterator","odict_iterator","itertools.zip_longest","itertools.pairwise"].contains n&&vs[0]?==aa _)=ae then _ else _) Q E s;erw[ao (by intro h;rw[W]at h;trivial),b4 j]))
def WA(K:ba)(a:Addr):It:=
 ⟨λi H=>∃xs x,AR K H a xs/\xs[i]?=aa x,λi H x H'=>H'=H/\∀xs,AR K H a xs->xs[i]?=aa x,λi H=>∃xs,AR K H a xs/\xs.length<=i⟩
def WB(K:ba)(a:Addr):It:=
 ⟨λi H=>∃xs x,AS K H a xs/\xs[i]?=aa x,λi H x H'=>H'=H/\∀xs,AS K H a xs->xs[i]?=aa x,λi H=>∃xs,AS K H a xs/\xs.length<=i⟩
def NZ(lo:ak)(n:ai):It:=⟨λi j=>i<n,λi H x H'=>H'=H/\x=.int (lo+i),λi j=>n<=i⟩
def akz{K}(a it):Turn P w K tg (WA K a) [it] it (λi h=>h.IsListIter it a i)where
 mem:=yS
 obj:=λi h st b hb=>by
  let e:b=it:=by simpa using hb
  subst e;show bz st λo e c d=>ap o e λv z=>by rw[d]at z;cases z
 keep:=λi h h' st k=>st.at λo e=>k it yS o e
 item:=by show λX hP hw hK hc i pins s B H E I hf st hg=>QY λq=>?_;subst hP hw hK;show jd hg λxs x hq hx=>bz (I.list hq) λU rv p hz=>?_;let⟨u,hu,ru⟩:=rv.get hx;show jc (hf it yS) λf0 f1 f2 f3 j=>xA j λf4 f5=>?_;apply q.f;show wpAny_pyNext_list_item st p.isList (by simpa using hu) λh' st' sb=>bz (id st') λo e c d=>ap u rfl (abp e c d yD (jx x H (I.turned (λb o hb e=>(sb.2 b hb).trans e) f0 f1 f3 f4 f5) ru ⟨rfl,λys hy=>by erw[I.abn hy hq,hx]⟩ st' (λb hb=>(hf b hb).1)))
 done:=by show λX hP hw hK hc i pins s B H E I hf st hg=>QY λzz=>?_;subst hP hw hK;let⟨xs,hq,hx⟩:=hg;show bz (I.list hq) λU rv p hz=>jc (hf it yS) λf0 f1 f2 f3 W=>xA W λf4 f5=>?_;let hl:=rv.length;apply zz.f;show wpAny_pyNext_list_end (I.ok.hd hc) st p.isList (by simp;lia) λh' eb=>⟨rfl,I.turned (λb o hb e=>eb b o hb e) f0 f1 f3 f4 f5⟩
 self:=λζ ζ ζ ζ ζ st h=>wpAny_pyIter_listiter st h
def ayi{K}(a it):Turn P w K tg (WB K a) [it] it (λi h=>h.IsTupleIter it a i)where
 mem:=yS
 obj:=λi h st b hb=>by
  let e:b=it:=by simpa using hb
  subst e;show bz st λo e c d=>ap o e λv z=>by rw[d]at z;cases z
 keep:=λi h h' st k=>st.at λo e=>k it yS o e
 item:=by show λX hP hw hK hc i pins s B H E I hf st hg=>QY λq=>?_;subst hP hw hK;show jd hg λxs x hq hx=>bz (I.tuple hq) λU rv p hz=>?_;let⟨u,hu,ru⟩:=rv.get hx;show jc (hf it yS) λf0 f1 f2 f3 j=>xA j λf4 f5=>?_;apply q.f;show wpAny_pyNext_tuple_item st (p) (x:=u) (by simpa using hu) λh' st' sb=>bz (id st') λo e c d=>ap u rfl (abp e c d yD (jx x H (I.turned (λb o hb e=>(sb.2 b hb).trans e) f0 f1 f3 f4 f5) ru ⟨rfl,λys hy=>by erw[I.wt hy hq,hx]⟩ st' (λb hb=>(hf b hb).1)))
 done:=by show λX hP hw hK hc i pins s B H E I hf st hg=>QY λzz=>?_;subst hP hw hK;let⟨xs,hq,hx⟩:=hg;show bz (I.tuple hq) λU rv p hz=>jc (hf it yS) λf0 f1 f2 f3 W=>xA W λf4 f5=>?_;let hl:=rv.length;apply zz.f;show wpAny_pyNext_tuple_end (I.ok.hd hc) st (p) (by simp;lia) λh' eb=>⟨rfl,I.turned (λb o hb e=>eb b o hb e) f0 f1 f3 f4 f5⟩
 self:=λζ ζ ζ ζ ζ st h=>wpAny_pyIter_tupleiter st h
def ayj{K}(q)(lo)(n):Turn P w K tg (NZ lo n) [q] q (λi h=>IsRangeIter h q (lo+i*1) (n-i) 1)where
 mem:=yS
 obj:=λi h st b W=>by
  let e:b=q:=by simpa using W
  subst e;show ap _ st λv z=>by cases z
 keep:=λi h h' st k=>k q yS _ st
 item:=by intro X hP hw hK hc i pins s B H E I hf st hg;subst hP hw hK;show jc (hf q yS) λf0 f1 f2 f3 j=>xA j λf4 f5=>(Walks.range (I.ok.hd hc) q lo 1 n).item i s _ _ hg st λv h' tk hv st' kk=>?_;let⟨t,rfl⟩:=hv;let I1:Inv X pins B H {s with heap:=h',toks:=tk}:=I.turned (λb o W e=>kk b o (by simpa using W) e) f0 f1 f3 f4 f5;show ap _ rfl (abp st' rfl rfl (rfl) (jx (.int (lo+i)) H I1 ⟨t,?_⟩ ⟨rfl,rfl⟩ st' (λb W=>(hf b W).1)));rw[Int.mul_one]
 done:=by intro X hP hw hK hc i pins s B H E I hf st hg;subst hP hw hK;let⟨f0,f1,f2,f3,f4,f5⟩:=hf q yS;show wpAny_pyNext_range_end (I.ok.hd hc) st (by let:n<=i:=hg;lia) λh' eb=>⟨rfl,I.turned (λb o W e=>eb b o W e) f0 f1 f3 f4 f5⟩
 self:=λζ ζ ζ ζ ζ st h=>wpAny_pyIter_rangeiter st h
section
variable{X:Cx}{tg:Expr}
def WC(K:ba)(tl:TE):TI:=λB H R=>tl B H λx Y=>∃a,x=.ref a/\(∃xs,AR K Y a xs)/\R (WA K a) Y
def AC1(K:ba)(tl:TE):TI:=λB H R=>tl B H λx Y=>∃a,x=.ref a/\(∃xs,AS K Y a xs)/\R (WB K a) Y
def ayk(hl:PE X l tl):PI X tg l (WC X.K tl):=by
 show λpins s B H R I h=>bg (hl pins s B H _ I h) λv W z=>QY λw=>?_;let⟨x,Y,j,r1,q1⟩:=z;let⟨a,e,⟨xs,hq⟩,q⟩:=q1;subst e;cases r1;show bz (j.list hq) λU rv p hz=>?_;apply w.f;show Y6 p.isList ⟨W.heap.objs.size,[W.heap.objs.size],_,_,Y,rfl,j.kept λb o e=>dg _ e,akz a _,(et _ (f7 _ rfl) rfl rfl),λb hb=>?_,q⟩;let e:=by simpa using hb
 subst e;show j.t7 (b8 _) (j.bu.fresh (b8 _))
def ayl(hl:PE X l tl):PI X tg l (AC1 X.K tl):=by
 show λpins s B H R I h=>bg (hl pins s B H _ I h) λv W z=>QY λw=>?_;let⟨x,Y,j,r1,q1⟩:=z;let⟨a,e,⟨xs,hq⟩,q⟩:=q1;subst e;cases r1;show bz (j.tuple hq) λU rv p hz=>?_;apply w.f;show UN (p) ⟨W.heap.objs.size,[W.heap.objs.size],_,_,Y,rfl,j.kept λb o e=>dg _ e,ayi a _,(et _ (f7 _ rfl) rfl rfl),λb hb=>?_,q⟩;let e:=by simpa using hb
 subst e;show j.t7 (b8 _) (j.bu.fresh (b8 _))
def ak0{B:St}{H}{s}{R}{E}{lo hi}{t u v}{tk}(I:Inv X pins B H s)(Z:-(2^62)<=lo)(h2:lo<2^62)(W:-(2^62)<=hi)(h4:hi<2^62)
 (q:R (NZ lo (hi-lo).toNat) H):ax (az X.prog X.w) X.A (yc (.ref s.heap.objs.size)) (zj X pins B tg R) E {s with heap:=s.heap.push {cls:=.type "range",data:=.fields #[.int lo t,.int hi u,.int 1 v]},toks:=tk}:=by
 show wpAny_pyIter_range (IsRange.new ..) (small_one Z h2 W h4) ?_;let j:Inv X pins B H {s with heap:=s.heap.push {cls:=.type "range",data:=.fields #[.int lo t,.int hi u,.int 1 v]},toks:=tk}:=I.kept λb o e=>dg _ e;show⟨(s.heap.push {cls:=.type "range",data:=.fields #[.int lo t,.int hi u,.int 1 v]}).objs.size,[(s.heap.push {cls:=.type "range",data:=.fields #[.int lo t,.int hi u,.int 1 v]}).objs.size],_,_,H,rfl,
  j.kept λb o e=>dg _ e,ayj _ lo (hi-lo).toNat,?_,λb hb=>?_,q⟩
 .let e1:lo+(0:ai)*1=lo:=yS;let e2:(hi-lo).toNat-(0:ai)=blm lo hi 1:=by grind[rangeSize_one]
  erw[e1,e2,f7 _ rfl]
 .let e:b=(s.heap.push {cls:=.type "range",data:=.fields #[.int lo t,.int hi u,.int 1 v]}).objs.size:=yA;subst e;show j.t7 (b8 _) (j.bu.fresh (b8 _))
def AC2(ta:TA):TI:=λB H R=>ta B H λvs Y=>∃j:ak,vs=[.int j]/\-(2^62)<=j/\j<2^62/\R (NZ 0 j.toNat) Y
def AC3(ta:TA):TI:=λB H R=>ta B H λvs Y=>∃i j:ak,vs=[.int i,.int j]/\(-(2^62)<=i/\i<2^62/\-(2^62)<=j/\j<2^62)/\R (NZ i (j-i).toNat) Y
def aym(hg:Gl X "range")(hm:X.mg "range"=af)(ha:PA X [a] ta)(hs:ed [a] X.env=[(ag,eval a X.env)]:=by rfl):PI X tg (.Call (.Name "range" p) [a] [] pos) (AC2 ta):=by
 show λpins s B H R I h=>QG (o9 I hg hm boot_range (JN (bg (ha pos pins s B H _ I h) λus s1 z=>QY λw=>?_) hs rfl));let⟨vs,Y,I1,r1,W⟩:=z;let⟨j,e,W,q2,q⟩:=W;subst e;cases r1 with
 |cons r rr=>cases rr;let⟨t,rfl⟩:=r;apply w.f;show call_range_1 (ak0 I1 yL yL W q2 yA)
def ayn(hg:Gl X "range")(hm:X.mg "range"=af)(ha:PA X [a,b] ta)(hs:ed [a,b] X.env=[(ag,eval a X.env),(ag,eval b X.env)]:=by rfl)(W:ed [b] X.env=[(ag,eval b X.env)]:=by rfl):
 PI X tg (.Call (.Name "range" p) [a,b] [] pos) (AC3 ta):=by
 show λpins s B H R I h=>QG (o9 I hg hm boot_range (JN (bg (ha pos pins s B H _ I h) λus s1⟨vs,Y,I1,r1,q1⟩=>QY λz=>?_) yA (by rw[W];rfl)));let⟨i,j,e,⟨q1,q2,q3,q4⟩,q⟩:=q1;subst e;cases r1 with
 |cons r rr=>
  cases rr with
  |cons r' rr=>cases rr;let⟨t,rfl⟩:=r;let⟨t',rfl⟩:=r';apply z.f;show call_range_2 (ak0 I1 q1 q2 q3 q4 q)
def RG(wi:TI)(g:TG)(tb:TS):TS:=λD B H=>wi B H λJ Y=>∃W:ai->ai->St->Hp->Prop,(∃m,W 0 m B Y)/\∀i m B H,W i m B H->
 (J.stop i H/\D.nx B H)\/(J.go i H/\∃N:St->Hp->Prop,(∀j H',N j H'->∃m',m'<m/\W (i+1) m' j H')/\∀x H',J.k7 i H x H'->g x B H' λq H2=>tb {D with nx:=N} q H2)
def RH(fp:ab Addr)(h:Heap):ab (Addr×Obj):=fp.filterMap λb=>(h.get? b).map λo=>(b,o)
def afm(j:b∈fp)(e:h.get? b=aa o):(b,o)∈RH fp h:=bgg.mpr ⟨b,j,yA⟩
def ayo(hp:p∈RH fp h):p.1∈fp/\h.get? p.1=aa p.2:=by show au (bgg.mp hp) λb j e=>?_;cases q:h.get? b<;>grind
def Inv.pinned(I:Inv X pins B H s)(hf:∀b∈fp,FA X pins H b)(ho:∀b∈fp,∃o,s.heap.get? b=aa o/\∀v,o.data≠.cell v):Inv X (pins++RH fp s.heap) B H s:=
 I.akm λp hp=>(sh.mp hp).elim (λz=>I.pin p (mn _ z)) λz=>by let⟨j,e⟩:=ayo z;show ly (hf p.1 j) λq W f2 _=>?_;grind
def Inv.afn(I:Inv X (pins++j) B H s):Inv X pins B H s:=I.akm λp hp=>I.pin p (mn _ (JL _ hp))
section
variable(hp:MK (az X.prog X.w) X.A X.env X.xe)(hc:X.calm=ae)
include hp hc
def ak1(hg:PG X tg g)(hb:B9 X body tb)(hs:∀x,foldedSetIterable iter X.env x=pure x){pins}{s}{B:St}{D}
 (hi:ax (az X.prog X.w) X.A (eval iter X.env) (λv s1=>ax (az X.prog X.w) X.A (yc v) (zj X pins B tg λJ Y=>∃W:ai->ai->St->Hp->Prop,(∃m,W 0 m B Y)/\∀i m B H,W i m B H->
  (J.stop i H/\D.nx B H)\/(J.go i H/\∃N:St->Hp->Prop,(∀j H',N j H'->∃m',m'<m/\W (i+1) m' j H')/\∀x H',J.k7 i H x H'->g x B H' λσ2 H2=>tb {D with nx:=N} σ2 H2)) X.xe s1) X.xe s):ax (az X.prog X.w) X.A (exec (.For tg iter body [] pos) X.env) (SP X pins D) X.xe s:=by
 show wpAny_For (bg hi λv s1 Z=>bg Z λitv s2 h2=>?_) hs;let⟨it,fp,tn,J,H2,e,I2,T,st2,f2,W,⟨m0,w0⟩,turn⟩:=h2;subst e;let stat:∀{H':Hp},(∀b∈fp,H' b=af)->∀b∈fp,FA X pins H' b:=λhn b hb=>⟨hn b hb,(f2 b hb).2⟩;show codeAny_forLoop_any (λn s'=>∃i j H',Inv X pins j H' s'/\tn i s'.heap/\(∀b∈fp,H' b=af)/\W i n j H') (λn s3 y0=>QY λq=>fh y0 λi σ3 H3 I3 st3 fr3 w3=>?_) m0 (o7 0 B H2 I2 st2 (λb hb=>(f2 b hb).1) w0);obtain⟨stop,qn⟩|⟨go,N,hN,step⟩:=turn i n σ3 H3 w3;.apply q.f;show ML hp (bg (T.done X rfl rfl rfl hc i pins s3 σ3 H3 X.xe I3 (stat fr3) st3 stop) λr s4 z=>?_);let⟨hr,I4⟩:=z;subst hr;show Y4 (gk σ3 H3 I4 qn)
 .apply q.f;show ML hp (bg (T.item X rfl rfl rfl hc i pins s3 σ3 H3 X.xe I3 (stat fr3) st3 go) λr s4 zz=>au zz λu hr h4=>?_);clear zz;subst hr;show ML hp (bg h4 λζ s5 z1=>?_);have⟨x,H5,I5,r5,y5,st5,fr5⟩:=z1;show ML hp (bg (hg _ s5 σ3 H5 x u _ (I5.pinned (stat fr5) (T.obj _ _ st5)) r5 (step x H5 y5)) λζ s6 z2=>QY λz0=>jd z2 λσ6 H6 I6 q6=>?_);apply z0.f;show ML hp (bg (hb _ s6 σ6 H6 _ I6 q6) λf s7 q7=>?_);let again:∀{σ7:St}{H7:Hp},Inv X _ σ7 H7 s7->N σ7 H7->∃m,m<n/\∃i j H',Inv X pins j H' s7/\tn i s7.heap/\(∀b∈fp,H' b=af)/\W i m j H':=fun{σ7 H7}I7 n7=>by show au (hN σ7 H7 n7) λm' hm w7=>⟨m',hm,i+1,σ7,H7,I7.afn,T.keep _ _ _ st5 λb hb o e=>(I7.pin (b,o) (mn _ (mn _ (afm hb e)))).1,λb hb=>au (T.obj _ _ st5 b hb) λo e d=>(I7.pin (b,o) (mn _ (mn _ (afm hb e)))).2.1,w7⟩
  cases f with
  |next=>show jd q7 λσ7 H7 I7 n7=>again I7 n7
  |ret v=>show kj q7 λx7 σ7 H7 I7 r7 q7=>zb x7 σ7 H7 I7.afn r7 q7
  |_=>show q7.elim
def afo(hi:PI X tg iter j)(hg:PG X tg g)(q:B9 X body tb)
 (W:∀x,foldedSetIterable iter X.env x=pure x):PS X (.For tg iter body [] pos) (RG j g tb):=
 λpins s B H D I h=>ak1 hp hc hg q W (hi pins s B H _ I h)
end
end
abbrev R2:=V->V->Hp->VK->Prop
def BS(X:Cx)(f:a6->a6->Sem a6)(r:R2):Prop:=
 ∀pins s B H x y v u Q,Inv X pins B H s->RelV x v->RelV y u->r x y H Q->
  ax (az X.prog X.w) X.A (f v u) (EP X pins B Q) X.xe s
def WD(X:Cx)(f:a6->Sem a6)(r:V->Hp->VK->Prop):Prop:=
 ∀pins s B H x v Q,Inv X pins B H s->RelV x v->r x H Q->
  ax (az X.prog X.w) X.A (f v) (EP X pins B Q) X.xe s
def B4(X:Cx)(f:a6)(r:ab V->Hp->VK->Prop):Prop:=
 ∀pins s B H xs us Q,Inv X pins B H s->Vals xs us->r xs H Q->
  ax (az X.prog X.w) X.A (call f us) (EP X pins B Q) X.xe s
def KH(r:R2)(ta tb:TE):TE:=λB H Q=>ta B H λx Y=>tb B Y λy H2=>r x y H2 Q
noncomputable def tUn(r:V->Hp->VK->Prop)(ta:TE):TE:=λB H Q=>ta B H λx Y=>r x Y Q
inductive l6(g:ak->ak->V)(x y:V)(H:Hp)(Q:VK):Prop|mk(i)(j)(h0:x=.int i)(Z:y=.int j)(h2:Q (g i j) H):l6 g x y H Q
inductive rU(g:ak->V)(x:V)(H:Hp)(Q:VK):Prop|mk(i)(h0:x=.int i)(Z:Q (g i) H):rU g x H Q
section
variable{X:Cx}{a b c:Expr}{ta tb tc:TE}{pos:Pos}
def afp(ha:PE X a ta)(W:PE X b tb){R:V->V->Hp->Prop}(I:Inv X pins B H s)
 (h:ta B H λx Y=>tb B Y λy H2=>R x y H2) {f:a6->a6->Sem a6}
 (hf:∀v u s2 x y H2,Inv X pins B H2 s2->RelV x v->RelV y u->R x y H2->ax (az X.prog X.w) X.A (f v u) Q X.xe s2):
 ax (az X.prog X.w) X.A (eval a X.env) (λv j=>ax (az X.prog X.w) X.A (eval b X.env) (λu q=>ax (az X.prog X.w) X.A (f v u) Q X.xe q) X.xe j) X.xe s:=by show bg (ha pins s B H _ I h) λv s1 z=>?_;let⟨x,Y,I1,r1,q1⟩:=z;show bg (W pins s1 B Y _ I1 q1) λu s2 zz=>?_;let⟨y,H2,I2,r2,q2⟩:=zz;show hf v u s2 x y H2 I2 r1 r2 q2
def afq(ho:BS X (vz op) r)(ha:PE X a ta)(j:PE X b tb):PE X (.BinOp a op b pos) (KH r ta tb):=by show λpins s B H Q I h=>wpAny_BinOp (afp ha j I h λv u s2 x y H2 W rx ry q=>ho pins s2 B H2 x y v u Q W rx ry q)
def ak2(ho:WD X (unaryOp op) r)(ha:PE X a ta):PE X (.UnaryOp op a pos) (tUn r ta):=by show λpins s B H Q I h=>UnaryOp_ (bg (ha pins s B H _ I h) λv j z=>?_);let⟨x,Y,q,r1,W⟩:=z;show ho pins j B Y x v Q q r1 W
def ak3{g:ak->ak->ak}
 (rule:∀(i j)(t u)(s)(Q)(E),Q (.int (g i j) s.toks) {s with toks:=s.toks+1}->ax (az X.prog X.w) X.A (f (.int i t) (.int j u)) Q E s):
 BS X f (l6 λi j=>.int (g i j)):=by intro pins s B H x y v u Q I W ry h;let⟨i,j,rfl,rfl,q⟩:=h;let⟨t,rfl⟩:=W;let⟨t',rfl⟩:=ry;show rule i j t t' s _ _ ⟨.int _,H,I.tok _,⟨_,rfl⟩,q⟩
def ac8{g:ak->ak->a4}
 (rule:∀(i j)(t u)(s)(Q)(E),Q (.bool (g i j)) s->ax (az X.prog X.w) X.A (f (.int i t) (.int j u)) Q E s):
 BS X f (l6 λi j=>.bl (g i j)):=by intro pins s B H x y v u Q I W ry h;let⟨i,j,rfl,rfl,q⟩:=h;let⟨t,rfl⟩:=W;let⟨t',rfl⟩:=ry;show rule i j t t' s _ _ ⟨.bl _,H,I,rfl,q⟩
def ayp:BS X (vz .Add) (l6 λi j=>.int (i+j)):=ak3 λW W W W W W W q=>add_int q
def ayq:BS X (vz .Sub) (l6 λi j=>.int (i-j)):=ak3 λW W W W W W W q=>sub_int q
def unI{g:ak->ak}
 (rule:∀(i)(t)(s)(Q)(E),Q (.int (g i) s.toks) {s with toks:=s.toks+1}->ax (az X.prog X.w) X.A (f (.int i t)) Q E s):
 WD X f (rU λi=>.int (g i)):=by intro pins s B H x v Q I j h;let⟨i,rfl,q⟩:=h;let⟨t,rfl⟩:=j;show rule i t s _ _ ⟨.int _,H,I.tok _,⟨_,rfl⟩,q⟩
def ak4:WD X (unaryOp .USub) (rU λi=>.int (-i)):=unI λj j j j j q=>neg_int q
end
noncomputable def rNe:R2:=λx y H Q=>∃i j,x=.int i/\y=.int j/\Q (.bl (!(i==j))) H
section
variable{X:Cx}{a b c:Expr}{ta tb tc:TE}{pos:Pos}
def ac9{B:St}{H}{s}{Q}{k j}(I:Inv X pins B H s)(q:Q (.bl k) H)(e:k=j):EP X pins B Q (.bool j) s:=by subst e;show⟨.bl k,H,I,rfl,q⟩
def ayr:BS X (ia .NotEq) rNe:=by intro pins s B H x y v u Q I W ry⟨i,j,e1,e2,q⟩;subst e1 e2;let⟨t,rfl⟩:=W;let⟨t',rfl⟩:=ry;show ne_int (ac9 I q rfl)
def ada:BS X (ia .Lt) (l6 λi j=>.bl (decide (i<j))):=ac8 λW W W W W W W q=>lt_int q
def adb:BS X (ia .LtE) (l6 λi j=>.bl (decide (i<=j))):=ac8 λW W W W W W W q=>le_int q
def ak5:BS X (ia .Gt) (l6 λi j=>.bl (decide (j<i))):=ac8 λW W W W W W W q=>gt_int q
def ays:BS X (ia .GtE) (l6 λi j=>.bl (decide (j<=i))):=ac8 λW W W W W W W q=>ge_int q
def ayt:BS X (ia .Is) (λx y H Q=>y=.bj/\Q (.bl (decide (x=.bj))) H):=by
 intro pins s B H x y v u Q I j W h;let⟨rfl,q⟩:=h;cases W;show is_none_gen (ac9 I q ?_);cases x<;>first
  
  |(let⟨t,rfl⟩:=j;rfl)
def afr(b)(h:op≠.In:=by decide)(h2:op≠.NotIn:=by decide):behindInMarks op b=false:=by
 let j:(op==bgh)=false:=yL;let q:(op==bgi)=false:=yL;cases b<;>try rfl
 change(_&&(op==bgh||op==bgi)&&_)=ag;rw[j,q,yd,kr,JO]
section
variable(ho:BS X (ia op) r)
include ho
def ak6(ha:PE X a ta)(j:PE X b tb)(hm:behindInMarks op b=ag):PE X (.Compare a [op] [b] pos) (KH r ta tb):=by show λpins s B H Q I h=>wpAny_Compare1 (afp ha j I h λv u s2 x y H2 W rx ry q=>ho pins s2 B H2 x y v u Q W rx ry q) hm
def WE(t:TE):TT:=λB H Q=>t B H (IB Q)
def ak7(ha:PE X a ta)(j:PE X b tb)(hm:behindInMarks op b=ag):PT X (.Compare a [op] [b] pos) (WE (KH r ta tb)):=by show λpins s B H Q I h=>bgj (bg (ha pins s B H _ I h) λv q z=>?_) hm;let⟨x,Y,W,r1,q1⟩:=z;show bg (j pins q B Y _ W q1) λu s2 z=>?_;let⟨y,H2,I2,r2,q2⟩:=z;show bg (ho pins s2 B H2 x y v u _ I2 r1 r2 q2) λc s3 z=>?_;let⟨z,H3,I3,r3,k,rfl,q3⟩:=z;cases r3;show ul ⟨H3,I3,q3⟩
def WG(r q:R2)(ta tb tc:TE):TE:=λB H Q=>ta B H λx Y=>tb B Y λy H2=>r x y H2 λz j=>∃k,z=.bl k/\
 (if k=ae then tc B j λW H4=>q y W H4 Q else Q (.bl ag) j)
def ayu(q:BS X (ia j) r')(ha:PE X a ta)(hb:PE X b tb)(hc:PE X c tc)
 (hm:lastMarks [op,j] [b,c]=ag):PE X (.Compare a [op,j] [b,c] pos) (WG r r' ta tb tc):=by
 show λpins s B H Q I h=>Compare_chain (bg (ha pins s B H _ I h) λv s1 z=>chain_link (QY λw=>?_)) hm;let⟨x,Y,I1,r1,q1⟩:=z;apply w.f;show bg (hb pins s1 B Y _ I1 q1) λu s2 z=>?_;let⟨y,H2,I2,r2,q2⟩:=z;show bg (ho pins s2 B H2 x y v u _ I2 r1 r2 q2) λd s3 z=>?_;let⟨z,W,I3,r3,k,rfl,q3⟩:=z;cases r3;show ul ?_;cases k with
 |false=>show ite_ff ⟨.bl ag,W,I3,rfl,q3⟩
 |true=>show ite_tt (chain_last (bg (hc pins s3 B W _ I3 q3) λw' s4 z=>?_));let⟨z',H4,I4,r4,q4⟩:=z;show q pins s4 B H4 y z' u w' Q I4 r2 r4 q4
def ayv(q:BS X (ia j) r')(ha:PE X a ta)(hb:PE X b tb)(hc:PE X c tc)
 (hm:lastMarks [op,j] [b,c]=ag):PT X (.Compare a [op,j] [b,c] pos) (WE (WG r r' ta tb tc)):=by
 show λpins s B H Q I h=>isTrue_chain (bg (ha pins s B H _ I h) λv s1 z=>test_link (QY λw=>?_)) hm;let⟨x,Y,I1,r1,q1⟩:=z;apply w.f;show bg (hb pins s1 B Y _ I1 q1) λu s2 z=>?_;let⟨y,H2,I2,r2,q2⟩:=z;show bg (ho pins s2 B H2 x y v u _ I2 r1 r2 q2) λd s3 z=>?_;let⟨z,W,I3,r3,k,rfl,q3⟩:=z;cases r3;show ul ?_;cases k with
 |false=>let⟨k',e',q'⟩:=q3;cases e';show ite_ff ⟨W,I3,q'⟩
 |true=>show ite_tt (test_last (bg (hc pins s3 B W _ I3 q3) λw' s4 z=>?_));let⟨z',H4,I4,r4,q4⟩:=z;show bg (q pins s4 B H4 y z' u w' _ I4 r2 r4 q4) λd' s5 z=>?_;let⟨z2,H5,I5,r5,k2,rfl,q5⟩:=z;cases r5;show ul ⟨H5,I5,q5⟩
end
def wx:aw<2^63:=yD
def ayw:BS X (vz .Add) (λx y H Q=>∃i j,x=.str i/\y=.str j/\i.length+j.length<=aw/\Q (.str (i++j)) H):=by show λpins s B H x y v u Q I rx ry h=>fg h λi j W zq249_2 hz q=>?_;clear h;subst W;subst zq249_2;let⟨t,rfl⟩:=rx;let⟨t',rfl⟩:=ry;show add_str (λt' tk=>⟨.str _,H,I.tok _,⟨_,rfl⟩,q⟩) hz
def vals1(r:Vals [x] us):∃u,us=[u]/\RelV x u:=by
 cases r with
 |cons r1 r2=>cases r2;show ap _ rfl r1
def ayx:B4 X (.builtin "abs") (λxs H Q=>∃i,xs=[.int i]/\Q (.int (if i<0 then-i else i)) H):=by intro pins s B H xs us Q I r h;let⟨i,rfl,q⟩:=h;let⟨u,rfl,t,rfl⟩:=vals1 r;show call_abs_int λu tk=>⟨.int _,H,I.tok _,⟨_,rfl⟩,q⟩
def ayy:B4 X (.type "int") (λxs H Q=>(∃i,xs=[.int i]/\Q (.int i) H)\/∃k,xs=[.bl k]/\Q (.int (if k then 1 else 0)) H):=by
 intro pins s B H xs us Q I r h;obtain⟨i,rfl,q⟩|⟨k,rfl,q⟩:=h;.let⟨u,rfl,t,rfl⟩:=vals1 r;show call_int_int ⟨.int i,H,I,⟨_,rfl⟩,q⟩
 .let⟨u,rfl,r1⟩:=vals1 r;cases r1;show call_int_bool ⟨.int _,H,I.tok _,⟨_,rfl⟩,q⟩
def ayz:B4 X (.type "str") (λxs H Q=>∃i,xs=[.int i]/\i.natAbs.log2<1920/\Q (.str (toString i)) H):=by intro pins s B H xs us Q I r h;let⟨i,rfl,hz,q⟩:=h;let⟨u,rfl,t,rfl⟩:=vals1 r;show PySem.P.str_of_int hz ⟨.str _,H,I.tok _,⟨_,rfl⟩,q⟩
def ay0:B4 X (.builtin "ord") (λxs H Q=>∃x,xs=[.str x]/\x.length=1/\Q (.int (x.cps.getD 0 0)) H):=by show λpins s B H xs us Q I r h=>bz h λx j hz q=>?_;clear h;subst j;let⟨u,rfl,t,rfl⟩:=vals1 r;show ord_of_one hz ⟨.int _,H,I.tok _,⟨_,rfl⟩,q⟩
end
structure zk(h:Heap)(x dx C:Addr)(mA:Str->ah a6):Prop where
 obj:h.get? x=aa (QD C dx)
 ns:h.Ns1 dx mA
 ne:dx≠x
def ay1{h:Heap}(n:h.Ns1 dx mA):∃od,h.get? dx=aa od/\∀name,Y7 name od=aa (mA name):=by
 show fh n λo es ep ho hd hk j=>xA j λ_ hm=>ap o ho λname=>?_;let e:=hm name;unfold nsFind findBy at e;rw[<-Array.find?_toList]at e;delta Y7;rw[hd];dsimp;split;.ext y q;rw[q]at e;show eh aa e
 .ext q;rw[q]at e;let a:es.toList.any (·.refKey)=false:=by erw[QH,λy hy=>iy (hk y (Array.mem_toList_iff.mp hy)) λz t W=>?_];simp[bln,W]
  grind
def zk.look(I:zk h x dx C mA):∃j,PySem.W.InstAt h x (QD C dx) C (aa j)/\∀name,Y7 name j=aa (mA name):=
 au (ay1 I.ns) λj ho hl=>(ap j ⟨I.obj,rfl,rfl,ho⟩ hl)
section
variable{prog:de}{w:c9}{A:jg}{E:a6->cu->Prop}{s:cu}{K:ba}{x dx C f:Addr}{mA:Str->ah a6}{name:Str}{v:a6}
def get_map{Q}(X:K.In s.heap)(I:zk s.heap x dx C mA)(hg:Y8 K C name=ae)(W:au0 K C=ae)
 (ha:uv K (.ref C) name=aa af)(hv:mA name=aa v)(j:bgk v=ae)(h:Q v {s with toks:=s.toks+1}):
 ax (az prog w) A (au1 (.ref x) name q) Q E s:=by show au I.look λod J hl=>PySem.W.get_value X J (au2 hg).1 (PySem.W.findObj_own W ha rfl yA) j h
def ay2{Q}(X:K.In s.heap)(I:zk s.heap x dx C mA)(hg:Y8 K C name=ae)
 (hf:uv K (.ref C) name=aa (aa (.ref f)))(j:UO K (.ref f)=ae)(W:mA name=af)(h:Q (.ref f,[.ref x]) s):
 ax (az prog w) A (Y9 (.ref x) name pl) Q E s:=by show au I.look λq J hl=>PySem.W.method_fn X J (au2 hg).1 (au2 hg).2 hf (qh.mp j) (by change(Y7 name q).map _=aa ag;walk) h
def ay3{Q}(X:K.In s.heap)(I:zk s.heap x dx C mA)
 (hs:uv K (.ref C) "__setattr__"=aa (aa (.builtin "object.__setattr__")))(hp:bgl K C=ae)(ht:au3 K C name=aa af)(hh:au0 K C=ae)
 (hw:auu mA ns)(hsz:ns.length<=aw)
 (h:∀h',zk h' x dx C (λy=>if y=name then aa v else mA y)->JM dx s.heap h'->Q () {s with heap:=h',toks:=s.toks+2}):
 ax (az prog w) A (setAttr (.ref x) name v) Q E s:=by show au I.look λod J hl=>PySem.W.set_plain X J hs (PySem.W.osa_open X J hp ht λb=>au (PySem.W.any_some hh) λcd hc W=>aq (b4 (aq (aq (wpAny_loadPart I.obj (aq (blo (PySem.W.looks_clsIn X hc) ?_)))))));erw[W,b4 (aq (b4 (aq (wpAny_nsSet1 I.ns λh' j q=>kj (j.count (blp name v hw)) λoD esD epD hoD hdD hcD=>aq (wpAny_lookBehind hoD (by erw[hdD,pastItsLine_dict (jh hcD yA)]) (b4 (h _ ⟨(q.2 _ (ji I.ne)).trans I.obj,j,I.ne⟩ q)))))))]
def ay4(X:K.In s.heap)(hm:ZA K C=ae)
 (hi:uv K (.ref C) "__init__"=aa (aa (.ref f)))(hf:PySem.W.typeIn K (.ref f)=aa (.type "function"))
 (h:v7 (az prog w) (A.under (.builtin "type.__call__" ⟨.ref C::vs,q⟩)) (.call (.ref f) ⟨.ref (s.heap.objs.size+1)::vs,q⟩) (PySem.W.InitBack (s.heap.objs.size+1) R)
   {s with heap:=(s.heap.push QI).push (QD C s.heap.objs.size)}):
 v7 (az prog w) A (.call (.ref C) ⟨vs,q⟩) R s:=PySem.W.make_core (PySem.W.makes_of X hm) (PySem.W.looks_findIn X hi) (λj=>PySem.W.bind_fn X j hf) (.inl rfl) h
end
def CJ(f:Str)(v:V):ab (Str×V)->ab (Str×V)
 |[]=>[(f,v)]
 |(g,x)::r=>if g=f then(g,v)::r else(g,x)::CJ f v r
def ak8(f g)(v):∀fs,(CJ f v fs).lookup g=if g=f then aa v else fs.lookup g
 |[]=>by change ye g [(f,v)]=_;grind
 |(k,x)::r=>by
  rw[show CJ f v _=(if k=f then(k,v)::r else(k,x)::CJ f v r)from rfl];by_cases hk:k=f;.grind
  .rw[ao hk];by_cases h:g=k;.walk
   .simp[ye,(i8.mpr h)];show(ak8 f g v r)
def afs(f)(v):∀fs,f∈(CJ f v fs).map (·.1)/\∀g,g∈fs.map (·.1)->g∈(CJ f v fs).map (·.1)
 |[]=>⟨by simp[CJ],λg h=>yA⟩
 |(k,x)::r=>by let⟨j,q⟩:=afs f v r;rw[show CJ f v _=(if k=f then(k,v)::r else(k,x)::CJ f v r)from rfl];grind
def ak9(f)(v):∀fs,(CJ f v fs).length<=fs.length+1
 |[]=>by simp[CJ]
 |(k,x)::r=>by let j:=ak9 f v r;rw[show CJ f v _=(if k=f then(k,v)::r else(k,x)::CJ f v r)from rfl];grind
def EL.some_of(r:EL (aa v) o):∃u,o=aa u/\RelV v u:=by
 cases o with
 |none=>show(r).elim
 |some u=>show ap u rfl r
def EL.none_of(r:EL af o):o=none:=by
 cases o with
 |none=>rfl
 |some u=>show(r).elim
def ay5(r:RelV v u):bgk u=true:=by
 cases v with
 |bj=>cases(r);rfl
 |bl b=>cases(r);rfl
 |int i=>let⟨t,e⟩:=(r);cases e;rfl
 |str x=>let⟨t,e⟩:=(r);cases e;rfl
 |ref a=>cases(r);rfl
 |ty n=>cases(r);rfl
section
variable{P:de}{w:c9}{H H':Hp}{h h':Heap}{a C dx:Addr}{fs fs':ab (Str×V)}
def ade(W:CH P w H h)(e:H a=aa (.ins C dx fs)):∃mA,zk h a dx C mA/\(∀f,EL (fs.lookup f) (mA f))/\auu mA (fs.map (·.1))/\fs.length<=1000/\H dx=aa (.own a):=by show QY λzz=>jc (W a _ e) λd z ne ob j=>bz j λmA n r q=>?_;apply zz.f;show ki mA ⟨ob,n,ne⟩ r q z d
end
structure fy(K:ba)(C:Addr):Prop where
 pg:Y8 K C au4=ae
 hd:au0 K C=ae
 po:bgl K C=ae
 sa:uv K (.ref C) "__setattr__"=aa (aa (.builtin "object.__setattr__"))
def fy.get{K}(c:fy K C)(f):Y8 K C f=true:=c.pg
def BG(K:ba)(C:Addr)(f:Str):Prop:=uv K (.ref C) f=aa af
def BG.ay6{K}(n:BG K C f):au3 K C f=aa none:=by delta au3;rw[n];rfl
structure Meth(K:ba)(C:Addr)(m:Str)(f:Addr):Prop where
 at_:uv K (.ref C) m=aa (aa (.ref f))
 fn:UO K (.ref f)=ae
 kp:og K (.ref f)=ae
section
variable{X:Cx}{pins:ab (Addr×Obj)}{B:St}{H:Hp}{s:cu}{a C dx:Addr}{fs:ab (Str×V)}{f:Str}{v:V}{A:jg}{E:a6->cu->Prop}
def ala(I:Inv X pins B H s)(e:H a=aa (.ins C dx fs))(c:fy X.K C)(n:BG X.K C f)(l:fs.lookup f=aa v)
 (h:∀u s',Inv X pins B H s'->RelV v u->Q u s'):ax (az X.prog X.w) A (au1 (.ref a) f b) Q E s:=by show zc (ade I.bu e) λmA O r _ _ _=>au (EL.some_of (by erw[<-l,r f])) λu q j=>get_map I.gh O (c.get f) c.hd n q (ay5 j) (h u _ (I.tok _) j)
def ay7{j}{Q}(I:Inv X pins B H s)(e:H a=aa (.ins C dx fs))(c:fy X.K C)(k:Meth X.K C m g)(l:fs.lookup m=af)
 (h:Q (.ref g,[.ref a]) s):ax (az X.prog X.w) A (Y9 (.ref a) m j) Q E s:=by show zc (ade I.bu e) λmA O r _ _ _=>ay2 I.gh O (c.get m) k.at_ k.fn (EL.none_of (by grind)) h
def alb{u}{Q}(I:Inv X pins B H s)(e:H a=aa (.ins C dx fs))(c:fy X.K C)(n:BG X.K C f)(hl:fs.length<1000)(ry:RelV y u)
 (h:∀s',Inv X pins B (upd H a (.ins C dx (CJ f y fs))) s'->Q () s'):ax (az X.prog X.w) A (setAttr (.ref a) f u) Q E s:=by
 show zc (ade I.bu e) λmA O r wi _ ho=>ay3 I.gh O c.sa c.po n.ay6 c.hd wi (by rw[bt,JP];lia) λh' O' sb=>h _ (I.write (by erw[e,lp]) (.inr ho) (λb q hb z=>(sb.2 b hb).trans z) (j8 O'.ns λo _ _ e' _=>⟨o,e'⟩) ⟨by erw[a9 O.ne,ho],?_,O.ne,O'.obj,_,O'.ns,λg=>?_,λg hg=>?_⟩);.let:=ak9 f y fs;lia
 .rw[ak8];by_cases q:g=f;.erw[aj q,aj q,ry]
  walk
 .by_cases q:g=f;.erw[q,(afs f y fs).1]
  .show(afs f y fs).2 g (wi g λz=>hg ?_);lia
def Inv.made(I:Inv X pins B H s):Inv X pins B (upd (upd H s.heap.objs.size (.own (s.heap.objs.size+1))) (s.heap.objs.size+1) (.ins C s.heap.objs.size []))
 {s with heap:=(s.heap.push QI).push (QD C s.heap.objs.size)}:=by
 let j:(s.heap.push QI).get? s.heap.objs.size=aa QI:=f7 s.heap rfl;let e2:=by let:=f7 (s.heap.push QI) (o:=QD C s.heap.objs.size) rfl;rw[jz]at this;show this
 show(I.laid (o:=.own _) (t':=s.toks) (λb u q=>dg _ q) (b8 _) ⟨_,j⟩).laid (λb u q=>dg _ q) (JQ (jz _ _)) ?_;let W:s.heap.objs.size≠s.heap.objs.size+1:=g9 (si _);show⟨by rw[a9 W,cy],gv _,W,e2,λζ=>af,(Heap.Ns1.of_empty ((o7 QI (#[]) _ j rfl (λe he=>cj he yS) (λζ=>rfl)))).at λo q=>dg _ q,λζ=>lp,λy hy=>cj rfl hy⟩
def ay8(q:attributeBase e f env (eval e env)=eval e env)
 (h:ax (az prog w) A (eval e env) (λo j=>ax (az prog w) A (au1 o f ae) Q E j) E s):ax (az prog w) A (eval (.Attribute e f pos) env) Q E s:=
 Attribute_any_ h (by rwa[arm_eval_Attribute,q])
end
inductive IFl(K:ba)(f:Str)(Q:VK)(x:V)(H:Hp):Prop|mk(a)(C)(dx)(fs)(v)(h0:x=.ref a)(Z:H a=aa (.ins C dx fs))(h2:fy K C)(h3:BG K C f)(h4:fs.lookup f=aa v)(q:Q v H):IFl K f Q x H
def AC4(K:ba)(ta:TE)(f:Str):TE:=λB H Q=>ta B H (IFl K f Q)
inductive ISf(K:ba)(f:Str)(y:V)(D:Ends)(B:St)(x:V)(H:Hp):Prop|mk(a)(C)(dx)(fs)(h0:x=.ref a)(Z:H a=aa (.ins C dx fs))(h2:fy K C)(h3:BG K C f)(h4:fs.length<1000)(q:D.nx B (upd H a (.ins C dx (CJ f y fs)))):ISf K f y D B x H
def AC5(K:ba)(ta tv:TE)(f:Str):TS:=λD B H=>tv B H λy Y=>ta B Y (ISf K f y D B)
def AAE(X:Cx)(op:auy)(j:V->V->Hp->VK->Prop):Prop:=
 ∀pins s B H x y u v Q,Inv X pins B H s->RelV x u->RelV y v->j x y H Q->ax (az X.prog X.w) X.A (inplaceOp op u v) (EP X pins B Q) X.xe s
def AC6(K:ba)(ta tv:TE)(W:V->V->Hp->VK->Prop)(f:Str):TS:=λD B H=>ta B H λx Y=>∃a C dx fs v,x=.ref a/\Y a=aa (.ins C dx fs)/\fy K C/\BG K C f/\fs.lookup f=aa v/\
 tv B Y λy H2=>W v y H2 λz q=>∃j fs',q a=aa (.ins C j fs')/\fs'.length<1000/\D.nx B (upd q a (.ins C j (CJ f z fs')))
section
variable{X:Cx}{o e value:Expr}{f:Str}{pos pos' tpos:Pos}{ta tv:TE}
def aft(he:PE X e ta)(j:attributeBase e f X.env (eval e X.env)=eval e X.env):PE X (.Attribute e f pos) (AC4 X.K ta f):=by show λpins s B H Q I h=>ay8 j (bg (he pins s B H _ I h) λu s1 z=>QY λw=>?_);let⟨x,Y,W,rx,a,C,dx,fs,v,ex,ea,c,n,l,q⟩:=z;subst ex;obtain rfl:u=ko a:=rx;apply w.f;show ala W ea c n l λu' s2 I2 ru=>⟨v,Y,I2,ru,q⟩
def pb(ha:PE X o ta)(j:PE X value tv)(W:uo value (aa (.Attribute o f pos')) pos.line X.env=pure ag):PS X (.Assign [.Attribute o f pos'] value pos) (AC5 X.K ta tv f):=by show λpins s B H D I h=>plainObj_wpAny_Assign_Attribute (bg (j pins s B H _ I h) λu s1 z=>QY λz0=>?_) W;let⟨y,Y,I1,ry,q⟩:=z;apply z0.f;show bg (ha pins s1 B Y _ I1 q) λov s2 zz=>QY λw=>?_;let⟨x,H2,I2,rx,a,C,dx,fs,ex,ea,c,n,l,q2⟩:=zz;subst ex;obtain rfl:ov=ko a:=rx;apply w.f;show alb I2 ea c n l ry λs3 I3=>(gk B _ I3 q2)
def ay9(ha:PE X o ta)(hv:PE X value tv)(j:AAE X op rd):PS X (.AugAssign (.Attribute o f tpos) op value pos) (AC6 X.K ta tv rd f):=by show λpins s B H D I h=>wpAny_AugAssign_AttributeAny (bg (ha pins s B H _ I h) λov s1 zz=>QY λz3=>?_);let⟨x,Y,I1,rx,a,C,dx,fs,v,ex,ea,c,n,l,q⟩:=zz;subst ex;obtain rfl:ov=ko a:=rx;apply z3.f;show ala I1 ea c n l λu s2 I2 ru=>bg (hv pins s2 B Y _ I2 q) λw3 s3 z1=>QY λz0=>?_;let⟨y,H2,I3,ry,q3⟩:=z1;apply z0.f;show bg (j pins s3 B H2 v y u w3 _ I3 ru ry q3) λw4 s4 z2=>QY λw=>?_;let⟨z,H3,I4,rz,dx',fs',W,l',q4⟩:=z2;apply w.f;show alb I4 W c n l' rz λs5 I5=>(gk B _ I5 q4)
inductive alc(x y:V)(H:Hp)(Q:VK):Prop|mk(i)(j)(h0:x=.int i)(Z:y=.int j)(h2:Q (.int (i+j)) H):alc x y H Q
def aza:AAE X .Add alc:=by rintro pins s B H x y u v Q I W ry⟨i,j,rfl,rfl,q⟩;let⟨t,rfl⟩:=(show∃t,u=aut i t from W);let⟨t',rfl⟩:=(ry);show bgf ⟨.int (i+j),H,I.tok _,⟨_,rfl⟩,q⟩
end
section
variable{X:Cx}{pins:ab (Addr×Obj)}{B:St}{H:Hp}{s:cu}{A:jg}{E:a6->cu->Prop}{Q:a6->cu->Prop}{c:a6}{b:a4}
inductive t8(K:ba)(H:Hp):V->a6->Prop where
 |bj:t8 K H .bj (.type "NoneType")
 |bl(x:a4):t8 K H (.bl x) (.type "bool")
 |int(i:ak):t8 K H (.int i) (.type "int")
 |str(x:Str):t8 K H (.str x) (.type "str")
 |lst{a:Addr}{xs:ab V}(e:H a=aa (.lst xs)):t8 K H (.ref a) (.type "list")
 |AN{a:Addr}{o:Obj}{xs:ab V}(e:H a=aa (.AN o (.lst xs))):t8 K H (.ref a) (.type "list")
 |tup{a:Addr}{xs:ab V}(e:H a=aa (.tup xs)):t8 K H (.ref a) (.type "tuple")
 |dK{a:Addr}{kvs:ab (Key×V)}(e:H a=aa (.dK kvs)):t8 K H (.ref a) (.type "dict")
 |ins{a C dx:Addr}{fs:ab (Str×V)}(e:H a=aa (.ins C dx fs))(cl:fy K C)(ha:uv K (.ref C) "__class__"=aa (aa (.builtin "object.__class__")))
  (hn:PySem.W.specialIn K (.builtin "object.__class__") "__get__"=aa (aa (.builtin "getset_descriptor.__get__")))(htk:PySem.W.takesIn K (.builtin "object.__class__")=aa ae)
  (hm:PySem.W.mroIn K C (.type "object")=aa ae):t8 K H (.ref a) (.ref C)
def abq{u t}(I:Inv X pins B H s)(j:RelV x u)(ty:t8 X.K H x t)(e:au5 X.K t c=aa b)(h:∀tk,Q (.bool b) {s with toks:=tk}):
 ax (az X.prog X.w) A (call (.builtin "isinstance") [u,c]) Q E s:=by
 cases ty with
 |bj=>cases(j);show v8 bgm I.gh lp e (λz=>nomatch z) h
 |bl y=>cases(j);show v8 bgn I.gh lp e (λz=>nomatch z) h
 |int i=>let⟨t,q⟩:=(j);cases q;show v8 bgo I.gh lp e (λz=>nomatch z) h
 |str y=>let⟨t,q⟩:=(j);cases q;show v8 bgp I.gh lp e (λz=>nomatch z) h
 |@lst a xs W=>cases(j);show vd (I.bu a _ W) λ_ _ n _ Z=>v8 au6 I.gh (ap _ Z rfl) e (λz=>nomatch z) h
 |@AN a ob xs W=>cases(j);let⟨_,_,_,n,_,Z⟩:=(I.bu a _ W);show v8 au6 I.gh (ap _ Z rfl) e (λz=>nomatch z) h
 |@tup a xs W=>cases(j);show rj (I.bu a _ W) λ_ _ _ p=>bz p λo Z h2 _=>v8 au7 I.gh (ap o Z h2) e (λz=>nomatch z) h
 |@dK a kvs W=>cases(show u=ko a from j);show j5 (I.bu a _ W) λ_ _ vs _ p=>kj p λo es ep Z h2 _=>v8 PySem.W.kitx_dict I.gh (ap o Z h2.1) e (λz=>nomatch z) h
 |@ins a C dx fs W cl ha hn htk hm=>cases(j);show au (ade I.bu W) λmA O _=>au O.look λod J _=>v8 (PySem.W.kitx_own (cl.get _) cl.hd ha hn htk hm) I.gh J e (λz=>nomatch z) h
end
structure ie(k:ai)(A:jg):Prop where
 hd:A.handled=af
 dp:A.depth+3*k+5<bgq
 un:A.units+16*k+200<jj
def ie.mono(r:ie k A)(h:j<=k):ie j A:=⟨r.hd,by let:=r.dp;lia,by let:=r.un;lia⟩
def ie.deeper(r:ie (k+1) A)(env):ie k (A.deeper env):=
 ⟨r.hd,by let:=r.dp;change A.depth+1+3*k+5<_;lia,by let:=r.un;change A.units+3+16*k+200<_;lia⟩
def azb{A:jg}:(A.under (.builtin "type.__call__" ⟨.ref C::us,j⟩)).depth=A.depth+1:=rfl
def azc{A:jg}:(A.under (.builtin "type.__call__" ⟨.ref C::us,j⟩)).units=A.units+1:=rfl
def ie.make(r:ie (k+1) A)(C)(us)(j):ie k (A.under (.builtin "type.__call__" ⟨.ref C::us,j⟩)):=
 ⟨r.hd,by let:=r.dp;rw[azb];lia,by let:=r.un;rw[azc];lia⟩
def ie.depth(r:ie k A):A.depth<recursionLimit:=by let:=r.dp;lia
def ie.units(r:ie k A):A.units+64<cLine:=by let:=r.un;lia
def N0:TA:=λj H Q=>Q [] H
def WH(ta:TE)(j:TA):TA:=λB H Q=>ta B H λx Y=>j B Y λxs H2=>Q (x::xs) H2
section
variable{X:Cx}{e:Expr}{es:ab Expr}{te:TE}{t:TA}{pos:Pos}
def fx:PA X [] N0:=λj j j j H Q I h=>QJ ⟨[],H,I,.nil,h⟩
def gc(ha:PE X e te)(hr:PA X es t)(j:ed (e::es) X.env=(ag,eval e X.env)::ed es X.env:=by rfl):PA X (e::es) (WH te t):=by intro pos pins s B H Q I h;erw[j,JR (bg (ha pins s B H _ I h) λu q z=>QY λw=>?_)];let⟨x,Y,W,r1,q1⟩:=z;apply w.f;show bg (hr pos pins q B Y _ W q1) λus s2 zz=>?_;let⟨xs,H2,I2,r2,q2⟩:=zz;show⟨x::xs,H2,I2,.cons r1 r2,q2⟩
def AC7(t:TA):TE:=λB H Q=>t B H λxs Y=>xs.length<=aw/\∀p,Y p=af->Q (.ref p) (upd Y p (.tup xs))
def AAF(t:TA):TE:=λB H Q=>t B H λxs Y=>xs.length<=aw/\∀p,Y p=af->Q (.ref p) (upd Y p (.lst xs))
def azd{x1}(h:PA X es t):PE X (.Tuple es x1 pos) (AC7 t):=by show λpins s B H Q I hq=>wpAny_Tuple_spliced (bg (h pos pins s B H _ I hq) λus j zz=>QY λw=>?_);let⟨xs,Y,W,r,z,q⟩:=zz;apply w.f;show⟨by rw[<-r.length];omega,⟨.ref j.heap.objs.size,upd Y j.heap.objs.size (.tup xs),W.laid (λb u e=>dg _ e) (b8 _) (aar z us r (lx _ (f7 _ rfl) rfl _ rfl)),rfl,q _ (W.bu.fresh (b8 _))⟩⟩
def ph(h:PA X es t):PE X (.List es pos) (AAF t):=by show λpins s B H Q I hq=>wpAny_List_spliced (bg (h pos pins s B H _ I hq) λus j zz=>QY λw=>?_);let⟨xs,Y,W,r,z,q⟩:=zz;apply w.f;show⟨by rw[<-r.length];omega,⟨.ref j.heap.objs.size,upd Y j.heap.objs.size (.lst xs),W.laid (λb u e=>dg _ e) (b8 _) (rh z us 0 r (f7 _ rfl)),rfl,q _ (W.bu.fresh (b8 _))⟩⟩
end
abbrev Sp:=ab V->Hp->VK->XK->Prop
abbrev zl:=ab Env->Hp->cu->XK->a6->cu->Prop
structure KJ(P:de)(w:c9)(K:ba)(mg:Str->ah a6)(base:Heap)(A:jg)(outer:ab Env)(s:cu)(H:Hp):Prop where
 frames:A.frames=aa outer
 mod:Mod K mg base
 bs:∀b o,base.get? b=aa o->s.heap.get? b=aa o/\H b=af
 vf:base.objs.size<=s.heap.objs.size
 eg:s.heap.FunFrames base outer
 ze:∀b∈FZ outer,H b=af
 bu:CH P w H s.heap
 bare:MJ s.gens
def CE(j:ab Env)(P:de)(w:c9)(H:Hp)(s:cu)(Q:VK)(u:a6)(s':cu):Prop:=
 ∃v H',s'.os=s.os/\MJ s'.gens/\Un (FZ j) [] H H' s.heap s'.heap/\CH P w H' s'.heap/\RelV v u/\Q v H'
def CR(CX:zl)(j:ab Env)(P:de)(w:c9)(H:Hp)(s:cu)(Q:VK)(E:XK)(r:Result)(s':cu):Prop:=
 match r with
 |.ok (.ret u)=>CE j P w H s Q u s'
 |.ok _=>il
 |.error e=>CX j H s E e s'
structure g8(P:de)(w:c9)(K:ba)(mg:Str->ah a6)(base:Heap)(CX:zl)(k:ai)(f:Addr)(fd:MN)(ps:ab Str)(sp:Sp):Prop where
 len:∀vs H Q E,sp vs H Q E->vs.length=ps.length
 run:∀A outer s H args us vs Q E,ie k A->KJ P w K mg base A outer s H->UP s fd args (ps.zip us)->Vals vs us->sp vs H Q E->
  v7 (az P w) A (.call (.ref f) args) (CR CX outer P w H s Q E) s
def g8.mono{K}(F:g8 P w K mg base CX j f fd ps sp)(h:j<=k):
 g8 P w K mg base CX k f fd ps sp:=⟨F.len,λA q s H W us vs Q E hr=>F.run A q s H W us vs Q E (hr.mono h)⟩
def g8.imp{K}(F:g8 P w K mg base CX k f fd ps sp)
 (h:∀vs H Q E,sp' vs H Q E->sp vs H Q E):g8 P w K mg base CX k f fd ps sp':=
 ⟨λvs H Q E q=>F.len vs H Q E (h _ _ _ _ q),λA j s H W us vs Q E hr he hb hv hs=>F.run A j s H W us vs Q E hr he hb hv (h _ _ _ _ hs)⟩
def KJ.make{K}(e:KJ P w K mg base A j s H)(C)(us)(q):
 KJ P w K mg base (A.under (.builtin "type.__call__" ⟨.ref C::us,q⟩)) j s H:=⟨by first|show e.frames,e.mod,e.bs,e.vf,e.eg,e.ze,e.bu,e.bare⟩
section
variable{X:Cx}{pins:ab (Addr×Obj)}{B:St}{H:Hp}{s s':cu}
def Inv.ald(I:Inv X pins B H s):KJ X.prog X.w X.K X.mg X.base X.A X.stack s H:=
 ⟨I.ok.frames,I.ok.mod,I.bs,jh I.ok.vf I.sz,I.stack,I.akl,I.bu,I.bare⟩
def Inv.after(I:Inv X pins B H s)(h:CE X.stack X.prog X.w H s Q u s'):EP X pins B Q u s':=by show lg h λv H' os bare un W j=>xA j λr q=>?_;clear h j;let⟨hh,g,d,t,os'⟩:=s';obtain rfl:os'=s.os:=os;show⟨v,H',I.call un W bare (λb z=>cj z yS),r,q⟩
end
def AC8(sp:Sp)(dvs:ab V)(E:XK)(t:TA):TE:=λB H Q=>t B H λvs Y=>sp (vs++dvs) Y Q E
def AC9(C:Addr)(m:Str)(sp:Sp)(dvs:ab V)(E:XK)(ta:TE)(t:TA):TE:=λB H Q=>ta B H λx Y=>∃a dx fs,x=.ref a/\Y a=aa (.ins C dx fs)/\fs.lookup m=af/\
 t B Y λvs H2=>sp (x::(vs++dvs)) H2 Q E
def AAG(C:Addr)(sp:Sp)(dvs:ab V)(E:XK)(t:TA):TE:=λB H Q=>t B H λvs Y=>∀x dx,Y x=af->Y dx=af->dx≠x->
 sp (.ref x::(vs++dvs)) (upd (upd Y dx (.own x)) x (.ins C dx [])) (λv H2=>v=.bj/\Q (.ref x) H2) E
def Binds(K:ba)(fd:MN)(ps:ab Str)(ds:ab a6):Prop:=
 ∀s us,K.In s.heap->(us++ds).length=ps.length->UP s fd ⟨us,[]⟩ (ps.zip (us++ds))
def Binds.all{K}(h:∀us:ab a6,us.length=ps.length->UQ fd ⟨us,[]⟩=pure (ps.zip us)):Binds K fd ps []:=λs us j hl=>by rw[ip]at hl⊢;show .of_eq (h us hl)
def IK(CX:zl)(X:Cx)(E:XK):Prop:=∀pins B H s e s',Inv X pins B H s->CX X.stack H s E e s'->X.xe e s'
section
variable{X:Cx}{CX:zl}{k:ai}{f C:Addr}{fd:MN}{ps:ab Str}{sp:Sp}{dvs:ab V}{ds:ab a6}{E:XK}{x m:Str}{p pos apos:Pos}{e o:Expr}{es:ab Expr}{ta:TE}{t:TA}
section
variable(F:g8 X.prog X.w X.K X.mg X.base CX k f fd ps sp)(hr:ie k X.A)
include F hr
def ale(q:Binds X.K fd ps ds)(hd:Vals dvs ds)(W:IK CX X E)
 (I:Inv X pins B H s)(r:Vals vs us)(h:sp (vs++dvs) H Q E):ax (az X.prog X.w) X.A (call (.ref f) us) (EP X pins B Q) X.xe s:=by
 let r2:=r.append hd;show au8 (QK (F.run X.A X.stack s H _ _ _ Q E hr I.ald (q s us I.gh (by erw[<-r2.length,F.len _ _ _ _ h])) r2 h) λr s' j=>?_);cases r with
 |error e=>show W pins B H s e s' I j
 |ok fl=>
  cases fl with
  |ret u=>show I.after j
  |_=>show ya j
def afu(hg:Gl X x)(hm:X.mg x=aa (.ref f))(hk:og X.K (.ref f)=ae)(hb:Binds X.K fd ps ds)(hd:Vals dvs ds)(hx:IK CX X E)
 (ha:PA X (e::es) t)(j:(x==("__debug__":Str))=false:=by decide)(he:ed (e::es) X.env=(ag,eval e X.env)::ed es X.env:=by rfl)(W:(kb pos (ed es X.env)).any (·.1)=false:=by rfl):
 PE X (.Call (.Name x p) (e::es) [] pos) (AC8 sp dvs E t):=by show λpins s B H Q I h=>JS (ac6 I hg hm (bgr I.ok.mod.RB hk (bg (ha pos pins s B H _ I h) λus s1 z=>?_) he W) j);let⟨vs,Y,I1,r,q⟩:=z;show⟨I1.gh,(ale F hr hb hd hx I1 r q)⟩
end
def alf(he:PE X o ta)(c:fy X.K C)(hm:Meth X.K C m f)(F:g8 X.prog X.w X.K X.mg X.base CX k f fd ps sp)(hr:ie k X.A)(hb:Binds X.K fd ps ds)(hd:Vals dvs ds)(hx:IK CX X E)
 (ht:eval (.Call (.Attribute o m apos) [] [] pos) X.env=(do
   let W<-eval o X.env
   UK apos.atName
   let(f,first)<-QF [W] (Y9 W m pl)
   au9 pos f first (kb pos (ed [] X.env)) (UR pos (US [] X.env))):=by rfl):
 PE X (.Call (.Attribute o m apos) [] [] pos) (AC9 C m sp dvs E ta N0):=by show λpins s B H Q I h=>PySem.W.methodCall_KW (bg (he pins s B H _ I h) λu s1 z=>QY λzz=>?_) ht;let⟨x,Y,j,rx,a,dx,fs,ex,ea,l,q⟩:=z;subst ex;obtain rfl:u=ko a:=rx;apply zz.f;show ay7 j ea c hm l (bgs j.gh hm.kp (ale (vs:=[.ref a]) F hr hb hd hx j (.cons rfl .nil) q))
structure Mk(K:ba)(C f:Addr):Prop where
 makes:ZA K C=ae
 init:uv K (.ref C) "__init__"=aa (aa (.ref f))
 fn:UO K (.ref f)=ae
 kp:og K (.ref C)=ae
def alg{B:St}{H}{s}{Q}{us}{vs}(M:Mk X.K C f)(F:g8 X.prog X.w X.K X.mg X.base CX k f fd ps sp)(hr:ie (k+1) X.A)(hb:Binds X.K fd ps ds)(hd:Vals dvs ds)
 (hx:IK CX X E)(I:Inv X pins B H s)(r:Vals vs us)
 (h:∀x dx,H x=af->H dx=af->dx≠x->sp (.ref x::(vs++dvs)) (upd (upd H dx (.own x)) x (.ins C dx [])) (λv H2=>v=.bj/\Q (.ref x) H2) E):
 ax (az X.prog X.w) X.A (call (.ref C) us) (EP X pins B Q) X.xe s:=by
 let W:=h _ s.heap.objs.size (I.bu.fresh (UT _)) (I.bu.fresh (b8 _)) (g9 (si _));let q:=Inv.made (C:=C) I;let r2:Vals (V.ref (s.heap.objs.size+1)::_) _:=.cons rfl (r.append hd);let hl:=by let e:=r2.length;rw[F.len _ _ _ _ W]at e;show e.symm
 show au8 (ay4 I.gh M.makes M.init (qh.mp M.fn) (QK (F.run _ X.stack _ _ _ _ _ _ E (hr.make C us [])
  (q.ald.make C us []) (hb _ _ q.gh hl) r2 W) λr s' j=>?_));cases r with
 |error e=>show hx pins B _ _ e s' q j
 |ok fl=>
  cases fl with
  |ret u=>let⟨v,H',I3,rv,ev,q3⟩:=q.after j;subst ev;show⟨rv,⟨V.ref _,H',I3,rfl,q3⟩⟩
  |_=>show ya j
section
variable(M:Mk X.K C f)(F:g8 X.prog X.w X.K X.mg X.base CX k f fd ps sp)(hr:ie (k+1) X.A)(hg:Gl X x)
include M F hr hg
def alh(hm:X.mg x=aa (.ref C))(hb:Binds X.K fd ps ds)(hd:Vals dvs ds)(hx:IK CX X E)
 (ha:PA X (e::es) t)(j:(x==("__debug__":Str))=false:=by decide)(he:ed (e::es) X.env=(ag,eval e X.env)::ed es X.env:=by rfl)(W:(kb pos (ed es X.env)).any (·.1)=false:=by rfl):
 PE X (.Call (.Name x p) (e::es) [] pos) (AAG C sp dvs E t):=by show λpins s B H Q I h=>JS (ac6 I hg hm (bgr I.ok.mod.RB M.kp (bg (ha pos pins s B H _ I h) λus s1 z=>?_) he W) j);let⟨vs,Y,I1,r,q⟩:=z;show⟨I1.gh,(alg M F hr hb hd hx I1 r q)⟩
def aze(hm:X.mg x=aa (.ref C))(q:Binds X.K fd ps ds)(hd:Vals dvs ds)(W:IK CX X E)
 (j:(x==("__debug__":Str))=false:=by decide):PE X (.Call (.Name x p) [] [] pos) (AAG C sp dvs E N0):=by show λpins s B H Q I h=>JS (ac6 I hg hm (bgs I.gh M.kp (alg M F hr q hd W I .nil h)) j)
end
end
section
variable{X:Cx}{CX:zl}{k:ai}{f C:Addr}{fd:MN}{ps ks:ab Str}{sp:Sp}{E:XK}{x m:Str}{p pos apos kpos:Pos}{e o:Expr}{es:ab Expr}{kws:ab MO}{te ta:TE}{t tk:TA}{nm:ah Str}
variable{g:ab a6->ab a6->ab a6}{gV:ab V->ab V->ab V}
end
structure iz(N P:ab Str)(sc:cz):Prop where
 kind:sc.kind=.function
 co:sc.isCoroutine=ag
 gen:sc.isGenerator=ag
 nd:N.Nodup
 pre:N.take P.length=P
 par:∀x∈P,sc.names.lookup x=aa .local\/sc.names.lookup x=aa .cell
 azf:∀y∈sc.names,y.2≠.free
noncomputable instance fsD(N P sc):ava (iz N P sc):=decidable_of_iff (sc.kind=.function/\sc.isCoroutine=ag/\sc.isGenerator=ag/\N.Nodup/\N.take P.length=P/\(∀x∈P,sc.names.lookup x=aa .local\/sc.names.lookup x=aa .cell)/\∀y∈sc.names,y.2≠.free) (by constructor<;>(rintro⟨a,b,c,d,e,f,g⟩;show⟨a,b,c,d,e,f,g⟩))
def ali{kindOf}:∀{j}{m},(∀v,(x,v)∉j)->MP kindOf j m x=m x
 |[],_,_=>rfl
 |(n,v)::r,m,h=>by delta MP;rw[ali λw q=>h w (dj _ q)];split;all_goals grind
def alj{kindOf}:∀{j}{m},(∀v,(x,v)∉j)->MQ kindOf j m x=m x
 |[],_,_=>rfl
 |(n,v)::r,m,h=>by
  delta MQ;rw[alj λw q=>h w (dj _ q)];split;.rfl
  grind
def alk{kindOf}{x}{v}:∀{P:ab Str}{vs}{i:ai}{m},P.Nodup->P[i]?=aa x->vs[i]?=aa v->kindOf x=aa .local->
 MP kindOf (P.zip vs) m x=aa v
 |[],_,_,_,_,h,_,_=>yT
 |_::_,[],_,_,_,_,h,_=>yT
 |p::P,w::vs,0,m,nd,Z,h2,j=>by simp at Z h2;subst Z;subst h2;change MP kindOf ((p,w)::P.zip vs) m p=_;delta MP;rw[ali λv q=>(gd.mp nd).1 (avb q).1,aj j];simp
 |p::P,w::vs,i+1,m,nd,Z,h2,j=>by delta MP;show alk (gd.mp nd).2 (by simpa using Z) yT j
def alm{kindOf}{x}{v}:∀{P:ab Str}{vs}{i:ai}{m},P.Nodup->P[i]?=aa x->vs[i]?=aa v->kindOf x≠aa .local->
 MQ kindOf (P.zip vs) m x=aa v
 |[],_,_,_,_,h,_,_=>yT
 |_::_,[],_,_,_,_,h,_=>yT
 |p::P,w::vs,0,m,nd,Z,h2,j=>by simp at Z h2;subst Z;subst h2;change MQ kindOf ((p,w)::P.zip vs) m p=_;delta MQ;rw[alj λv q=>(gd.mp nd).1 (avb q).1,ao j];simp
 |p::P,w::vs,i+1,m,nd,Z,h2,j=>by delta MQ;show alm (gd.mp nd).2 (by simpa using Z) yT j
noncomputable def start(N:ab Str)(vs:ab V):St:=vs.map aa++ZC (N.length-vs.length) af
def EM(CX:zl)(P:de)(w:c9)(K:ba)(mg:Str->ah a6)(base:Heap)(N:ab Str)(qual:Str)(scope:cz)(f:Addr)(cd:a6)(A:jg)(outer:ab Env)(s:cu)(H:Hp)(E:XK):Cx where
 prog:=P
 w:=w
 K:=K
 mg:=mg
 base:=base
 A:=A.deeper (v9 qual scope s.heap.objs.size f cd)
 N:=N
 jr:=s
 zd:=H
 env:=v9 qual scope s.heap.objs.size f cd
 outer:=outer
 stack:=v9 qual scope s.heap.objs.size f cd::outer
 ex:=[]
 calm:=ae
 fn:=λζ=>ae
 pn:=[]
 xe:=λe s'=>ax (az P w) (A.deeper (v9 qual scope s.heap.objs.size f cd)) (leaving (v9 qual scope s.heap.objs.size f cd) e) (λζ s''=>CX outer H s E e s'') (λe' s''=>CX outer H s E e' s'') s'
def aln{sc:cz}(h:sc.names.lookup x=aa .cell):∃c,(kf n sc.names []).lookup x=aa c:=MS.mp (bgt sc.names n [] (.inl h))
def azg{K}
 (S:iz N ps j)(hd:A.handled=af)(e0:KJ P w K mg base A W s H)(hl:vs.length=ps.length)(r:Vals vs us)
 (x:InCallC s s.heap.objs.size (MP (v9 qual j s.heap.objs.size f cd).kindOf (ps.zip us) λζ=>af) (kf (s.heap.objs.size+1) j.names []) (MQ (v9 qual j s.heap.objs.size f cd).kindOf (ps.zip us) λζ=>af) s1):
 Inv (EM CX P w K mg base N qual j f cd A W s H E) [] (start N vs) H s1:=by
 let hpl:ps.length<=N.length:=by let:=eh wa S.pre;rw[UU]at this;lia
 show jd x.done λZ tk zq320_1 hk=>?_;subst zq320_1;let noA:∀b,b∉(EM CX P w K mg base N qual j f cd A W s H E).ex:=λb z=>cj (show b∈[]from z) yS;show⟨⟨e0.mod,S.kind,rfl,rfl,b8 _,λy z c Z h2=>name_of_addr x.apart (mq Z) (mq h2),λy hy=>hy.elim (λhy=>aln hy) λhy=>cj rfl (S.azf _ (mq hy)),λy c ζ h=>sg (x.above y c (mq h)),λζ=>hd,Around.frames_deeper e0.frames,.inr ⟨rfl,rfl⟩,λb z=>cj z (noA b),e0.bs,e0.vf,λb ζ ζ=>noA b,λb z=>cj z (noA b),e0.eg,e0.ze⟩,
  rfl,e0.bare,Un.kept hk,(ap _ x.toInCall.ns (λi y v Z h2 h3=>?_)),λy c h=>⟨_,x.cell y c h⟩,e0.bu.fresh (b8 _),λy c h=>e0.bu.fresh (sg (x.above y c (mq h))),λp hp=>cj (show p∈[]from hp) yS,e0.bu.kept hk,?_⟩
 .let hi:i<vs.length:=by
   delta start at h2;by_cases hi:i<vs.length;.show hi
   .rw[List.getElem?_append_right (by simpa using hi),MT]at h2;k_lt h2<;>cases h2
  let ha:vs[i]?=aa v:=by simp_all[start,UW]
  show au (r.get ha) λu hu rv=>?_;let hp:ps[i]?=aa y:=by erw[<-S.pre,List.getElem?_take_of_lt yL,Z]
  let ndP:ps.Nodup:=by erw[<-S.pre,S.nd.sublist (bgu _ _)]
  show ap u rv ?_;obtain k|k:=S.par y (QL hp);.show .inl ⟨k,alk ndP hp hu k⟩
  .let⟨c,e⟩:=aln k;show .inr ⟨.inl k,c,e,?_⟩;let q:=x.cell y c e;rw[alm ndP hp hu (by change j.names.lookup y≠_;rw[k];decide)]at q;show q
 .delta start;change _=N.length;rw[e9,bt,avc];lia
def zm{K}{dV kV doc pm cdv ct oc}
    (lk:K.lookup f=aa ⟨oc,od,.func (qi name qual params body j dV kV doc pm an cdv ct),osl⟩)(hcd:MU K cdv qual=ae)(S:iz N ps j)
 (len:∀vs H Q E,sp vs H Q E->vs.length=ps.length)
 (hbody:∀(A)(W)(s)(H)(vs)(Q)(E),ie k (A.deeper (v9 qual j s.heap.objs.size f cdv))->sp vs H Q E->
   ∃t,B9 (EM CX P w K mg base N qual j f cdv A W s H E) body t/\t {nx:=λζ H'=>Q .bj H',rt:=Q} (start N vs) H):
 g8 P w K mg base CX (k+1) f (qi name qual params body j dV kV doc pm an cdv ct) ps sp:=by
 show⟨len,λA W s H args us vs Q E hr e0 hb r hsp=>?_⟩;let KX:=e0.mod.RB.keeps λb o e=>(e0.bs b o e).1;let hkind:∀y∈ps.zip us,j.names.lookup y.1=aa .local\/(j.names.lookup y.1=aa .cell/\((kf (s.heap.objs.size+1) j.names []).lookup y.1).isSome=ae):=fun⟨n,v⟩hy=>by show(S.par n (avb hy).1).elim (λq=>.inl q) λq=>.inr ⟨q,bgt _ _ _ (.inl q)⟩
 show codeAny_call_function hr.depth (KX _ _ lk) rfl S.co S.gen rfl (PySem.W.codeRec_of KX hcd) (hb _ _ _ _ (wpAny_newFunctionEnv_cells S.kind hkind λenv he s1 x=>?_));subst he;show⟨(e0.mod.nolimit.keeps λb o e=>(e0.bs b o e).1).keeps x.toInCall.keep,codeAny_func (au (hbody A W s H vs Q E (hr.deeper _) hsp) λt ht hq=>mm (ht [] s1 _ H _ (azg S hr.hd e0 (len _ _ _ _ hsp) r x) hq) (λfl s' hs=>?_) λe s' hs=>hs)⟩;let fin:∀{σ':St}{H':Hp}{v:V}{u:a6},Inv (EM CX P w K mg base N qual j f cdv A W s H E) [] σ' H' s'->RelV v u->Q v H'->CE W P w H s Q u s':=
  fun{σ' H' v u}J rv q=>(aas v H' J.os J.bare J.base J.bu rv q);cases fl with
 |ret u=>show kj hs λv σ' H' J rv q=>fin J rv q
 |next=>show jd hs λσ' H' J q=>fin (v:=V.bj) J rfl q
 |_=>show hs.elim
section
variable{X:Cx}{x:Str}{p pos:Pos}{e:Expr}{es:ab Expr}{t:TA}{id T:qf}{r:ab V->Hp->VK->Prop}
noncomputable def tCB(r:ab V->Hp->VK->Prop)(t:TA):TE:=λB H Q=>t B H λvs Y=>r vs Y Q
def t9(hc:B4 X (.builtin id) r)(hg:Gl X x)(hm:X.mg x=af)(W:MI x=aa (.builtin id))(ha:PA X (e::es) t)(hn:x≠"__name__":=by decide)(j:(x==("__debug__":Str))=false:=by decide)
 (he:ed (e::es) X.env=(ag,eval e X.env)::ed es X.env:=by rfl)(q:(kb pos (ed es X.env)).any (·.1)=false:=by rfl):PE X (.Call (.Name x p) (e::es) [] pos) (tCB r t):=by show λpins s B H Q I h=>JS (o9 I hg hm W (avd (bg (ha pos pins s B H _ I h) λus s1 z=>?_) he q) hn j);let⟨vs,Y,I1,r1,q1⟩:=z;show hc pins s1 B Y vs us Q I1 r1 q1
def adf(hc:B4 X (.type T) r)(hg:Gl X x)(hm:X.mg x=af)(W:MI x=aa (.type T))(ha:PA X (e::es) t)(hn:x≠"__name__":=by decide)(j:(x==("__debug__":Str))=false:=by decide)
 (he:ed (e::es) X.env=(ag,eval e X.env)::ed es X.env:=by rfl)(q:(kb pos (ed es X.env)).any (·.1)=false:=by rfl):PE X (.Call (.Name x p) (e::es) [] pos) (tCB r t):=by show λpins s B H Q I h=>JS (o9 I hg hm W (JN (bg (ha pos pins s B H _ I h) λus s1 z=>?_) he q) hn j);let⟨vs,Y,I1,r1,q1⟩:=z;show hc pins s1 B Y vs us Q I1 r1 q1
end
end L2
namespace HT
open PySem PyProof.Rows
section
open PySem.SeqAt
open PySem.AutoSeq1(wpAny_loadPart')
open PySem.MeetsSeq PySem.MeetsSeq2 PySem.MeetsSeq3
end
section
variable{prog:de}{w:c9}{A:jg}{E:a6->cu->Prop}{s:cu}
def azh{vs q}{Q}(ht:MH s.heap t vs.toArray)(hb:MH s.heap b q.toArray)(hv:vs≠[])
 (Z:q=[]->Q (.ref t) s)(h2:q≠[]->Q (.ref s.heap.objs.size) {s with heap:=s.heap.push {cls:=.type "tuple",data:=.seq (vs++q).toArray}})
 (hsz:vs.length+q.length<=aw):ax (az prog w) A (vz .Add (.ref t) (.ref b)) Q E s:=by
 show j7 (id ht) λj ho hc n hd=>?_;let⟨cls,dd,data,sl⟩:=j;let⟨⟨cls2,dd2,data2,sl2⟩,W,hc2,n2,hd2⟩:=id hb;subst hc hd hc2 hd2;let e:vs.toArray++q.toArray=(vs++q).toArray:=yS;by_cases hw:q=[]
 .show ave ⟨_,ho,rfl⟩ ⟨_,W,rfl⟩ avf avg avh avi (avj _ _)
   (tuple_addW1 t b vs.toArray q.toArray n n2 dd dd2 sl sl2 yA yA) ⟨ho,W,Z hw⟩
 .show ave ⟨_,ho,rfl⟩ ⟨_,W,rfl⟩ avf avg avh avi (avj _ _)
   (tuple_addW2 t b vs.toArray q.toArray n n2 dd dd2 sl sl2 yA yA (hsz)) ⟨ho,W,?_⟩;erw[e,h2 hw]
def BL(n d:ai):ah ak->ai
 |none=>d
 |some v=>if v<0 then(v+(n:ak)).toNat else min v.toNat n
def alo(n d:ai):BL n d af=d:=rfl
def aax(n d k:ai):BL n d (aa k)=min k n:=rfl
def alp(v:ak)(n d:ai):(if v<0 then max (v+n) 0 else min v n)=BL n d (aa v):=by change(if v<0 then max _ 0 else min v _)=(if v<0 then(v+_).toNat else min v.toNat n);grind
def azi(lo hi)(n:ai):bgv lo hi 1 n=((BL n 0 lo:ak),(BL n n hi:ak)):=by
 show Prod.ext ?_ ?_;.cases lo with
  |none=>rfl
  |some v=>show alp v n 0
 .cases hi with
  |none=>rfl
  |some v=>show alp v n n
def azj(i j:ai):ZD i j 1=j-i:=by delta ZD;let Z:1>0:=yL;simp[Z];split<;>lia
def alq{o}{Q}(p:IsPart v o)(h:Q o s):ax (az prog w) A (blq v) Q E s:=by
 cases p with
 |none=>show bgw h
 |int i t=>show slicePart_int h
def azk{lo hi}{n:ai}{Q}(hs:s.heap.IsSliceOf sl W vu .none)(pl:IsPart W lo)(pu:IsPart vu hi)
 (h:Q (((BL n 0 lo:ai):ak),1,BL n n hi-BL n 0 lo) s):ax (az prog w) A (blr (.ref sl) (pure n)) Q E s:=by show bz (id hs) λos j hcs q=>aq (aq (lq j q (x:=W) rfl (aq (lq j q (x:=vu) rfl (aq (lq j q rfl (b4 (aq (bgw (aq (alq pl (aq (alq pu (aq (b4 ?_)))))))))))))));change ax _ _ (match bgv lo hi 1 (n)with|(lo,hi)=>pure (lo,_,ZD lo hi 1)) _ _ s;rw[azi lo hi n];change ax _ _ (pure (_,_,ZD _ _ 1)) _ _ s;erw[azj,b4 h]
def azl(xs:yf a6)(i k:ai):((e6 k).filterMap fun(m:ai)=>xs[((i:ak)+m*1).toNat]?).toArray=((xs.toList.drop i).take k).toArray:=by
 let e:(fun(m:ai)=>xs[(i+(m:ak)*1).toNat]?)=λm=>xs[i+m]?:=by funext m;let:(i+(m:ak)*1).toNat=i+m:=yL;rw[this]
 rw[e];let:=pick_run xs i k;rw[List.filterMap_map]at this;let j:(_∘λx=>i+x)=λm=>xs[i+m]?:=rfl;lia
def azm{items}{vl vu}{lo hi}{Q}(ht:MH s.heap t items)(hs:s.heap.IsSliceOf sl vl vu .none)(pl:IsPart vl lo)(pu:IsPart vu hi)
 (hw:¬(BL items.size 0 lo=0/\BL items.size items.size hi=items.size))
 (h:Q (.ref s.heap.objs.size) {s with heap:=s.heap.push {cls:=.type "tuple",data:=.seq ((items.toList.drop (BL items.size 0 lo)).take (BL items.size items.size hi-BL items.size 0 lo)).toArray}})
 (hsz:items.size<=aw):ax (az prog w) A (yb (.ref t) (.ref sl)) Q E s:=by
 let htake:=by change((items.toList.drop (BL items.size 0 lo)).take (BL items.size items.size hi-BL items.size 0 lo)).toArray.size<=aw;rwa[uw,UU,MV,Array.length_toList];omega
 show bz (id hs) λos hos hcs hds=>?_;delta yb;try with_reducible show QM ?_
 show aq (wpAny_sequenceKey ht.typeIs (rfl) (aq (MW ht.typeIs ZE
  (sj ZE ht.typeIs entry_tuple_getitem ?_ (args_tuple_getitem _ _)))));change ax _ _ (bgx _>>=_) _ _ s;show aq (tupleItemsOf_ ht (aq (wpAny_typeOf ((ap os hos hcs)) (aq (azk hs pl pu ?_)))));let hno:¬(((BL items.size 0 lo:ak)==0&&(1:ak)==1&&(BL items.size items.size hi-BL items.size 0 lo)==items.size)=ae):=by walk
 change ax _ _ (if(_==0&&1==1&&_==items.size)=ae then _ else _) _ _ s;rw[ao hno,azl];first
  |show aq (MX (b4 (ap _ rfl (b4 h))) htake)
end
end HT
namespace L2
open PySem PySem.Spec PyProof.Rows
abbrev TO:=St->Hp->(ah ak->Hp->Prop)->Prop
def PO(X:Cx)(e:ah Expr)(t:TO):Prop:=
 ∀pins s B H Q,Inv X pins B H s->t B H Q->
  ax (az X.prog X.w) X.A (evalPart e X.env) (λu s'=>∃o H',Inv X pins B H' s'/\IsPart u o/\Q o H') X.xe s
def ADA:TO:=λj H Q=>Q af H
inductive IPa(Q:ah ak->Hp->Prop)(x:V)(H:Hp):Prop|mk(i)(h:x=.int i)(q:Q (aa i) H):IPa Q x H
def ADB(t:TE):TO:=λB H Q=>t B H (IPa Q)
section
variable{X:Cx}{e:Expr}{te:TE}{lo hi:ah Expr}{tl th:TO}{pos p2:Pos}
def azn:PO X af ADA:=by show λpins s B H Q I h=>b4 (dq af H I (.none) h)
def azo(h:PE X e te):PO X (aa e) (ADB te):=by show λpins s B H Q I j=>bg (h pins s B H _ I j) λu s1 z=>QY λw=>?_;let⟨x,Y,W,r1,q1⟩:=z;let⟨i,rfl,q⟩:=q1;let⟨t,rfl⟩:=r1;apply w.f;show dq (aa i) Y W (.int i t) q
def RI(X:Cx)(r:V->ah ak->ah ak->Hp->VK->Prop):Prop:=
 ∀pins s B H x v j q lo hi W Q,Inv X pins B H s->RelV x v->s.heap.IsSliceOf W j q .none->IsPart j lo->IsPart q hi->r x lo hi H Q->
  ∃T id,typeLookup (.type T) "__getitem__"=pure (aa (.builtin id))/\s.TypeIs v T/\ax (az X.prog X.w) X.A (yb v (.ref W)) (EP X pins B Q) X.xe s
noncomputable def tSl(r:V->ah ak->ah ak->Hp->VK->Prop)(te:TE)(tl th:TO):TE:=λB H Q=>te B H λx Y=>tl B Y λl H2=>th B H2 λu j=>r x l u j Q
def azp(hr:RI X r)(he:PE X e te)(hl:PO X lo tl)(hu:PO X hi th):PE X (.Subscript e (.Slice lo hi af p2) pos) (tSl r te tl th):=by show λpins s B H Q I h=>avk (bg (he pins s B H _ I h) λv s1 z=>?_);let⟨x,Y,I1,r1,q1⟩:=z;show wpAny_Slice (bg (hl pins s1 B Y _ I1 q1) λW s2 zz=>QY λw=>b7 zz λl H2 I2 pl q2=>?_);apply w.f;show bg (hu pins s2 B H2 _ I2 q2) λvu j z1=>QY λz0=>b7 z1 λu H3 I3 pu q3=>?_;apply z0.f;show b4 ?_;let I4:Inv X pins B H3 {j with heap:=j.heap.push {cls:=.type "slice",data:=.fields #[W,vu,.none]}}:=I3.kept λb ob q=>dg _ q;show b7 (hr pins {j with heap:=j.heap.push {cls:=.type "slice",data:=.fields #[W,vu,.none]}} B H3 x v W vu l u j.heap.objs.size Q I4 r1 (blu ..) pl pu q3) λT id hT ht hg=>tail_any ht hT hg (rfl)
def KL(xs:ab V)(lo hi:ah ak):ab V:=(xs.drop (HT.BL xs.length 0 lo)).take (HT.BL xs.length xs.length hi-HT.BL xs.length 0 lo)
def alr(xs)(lo hi):(KL xs lo hi).length<=xs.length:=by delta KL;show jh (List.length_take_le' _ _) (MV ..▸Nat.sub_le _ _)
inductive als(K:ba)(x:V)(lo hi:ah ak)(H:Hp)(Q:VK):Prop|mk(a)(xs)(h0:x=.ref a)(Z:AS K H a xs)(h2:¬(HT.BL xs.length 0 lo=0/\HT.BL xs.length xs.length hi=xs.length))(h3:∀p,H p=af->Q (.ref p) (upd H p (.tup (KL xs lo hi)))):als K x lo hi H Q
def azq:RI X (als X.K):=by show λpins s B H x v vl vu lo hi sl Q I rx hs pl pu h=>QY λz=>?_;let⟨a,xs,rfl,hx,hw,q⟩:=h;cases rx;show bz (I.tuple hx) λU r W hz=>?_;let j:U.toArray.size=xs.length:=r.length.symm;apply z.f;show dq ("tuple") _ ZE.lookup W.typeIs (HT.azm W hs pl pu (by rw[j];omega) ?_ yA);erw[j,⟨.ref s.heap.objs.size,_,I.laid (λb ob q=>dg _ q) (b8 _) ?_,rfl,q _ (I.bu.fresh (b8 _))⟩];show⟨jh (alr xs lo hi) hz,_,(r.drop _).take _,avl _ _⟩
inductive alu(K:ba)(x y:V)(H:Hp)(Q:VK):Prop|mk(a)(b)(xs)(ys)(h0:x=.ref a)(Z:y=.ref b)(h2:AS K H a xs)(h3:AS K H b ys)(h4:xs≠[])(h5:xs.length+ys.length<=aw)(h6:(ys=[]->Q (.ref a) H))(h7:(ys≠[]->∀p,H p=af->Q (.ref p) (upd H p (.tup (xs++ys))))):alu K x y H Q
def Vals.afv(r:Vals xs us):us=[]↔xs=[]:=by cases r<;>grind
def azr:BS X (vz .Add) (alu X.K):=by show λpins s B H x y v u Q I W ry h=>QY λzz=>?_;let⟨a,b,xs,ys,rfl,rfl,ha,hb,hx,hz,q1,q2⟩:=h;cases W;cases ry;show bz (I.tuple ha) λU r1 p1 _=>bz (I.tuple hb) λj r2 p2 _=>?_;apply zz.f;show HT.azh p1 p2 (λz=>hx (r1.afv.mp z)) (λz=>⟨.ref a,H,I,rfl,q1 (r2.afv.mp z)⟩) (λz=>⟨.ref s.heap.objs.size,_,I.laid (λb ob q=>dg _ q) (b8 _) ?_,rfl,q2 (λw=>z (r2.afv.mpr w)) _ (I.bu.fresh (b8 _))⟩) (by rw[<-r1.length,<-r2.length];omega);show⟨yA,_,r1.append r2,avl _ _⟩
end
def DU(n:ai)(i:ak):ah Nat:=if 0<=i then(if i<n then aa i.toNat else af)else if-(n:ak)<=i then aa (i+n).toNat else af
def BQ{q:Type}(xs:ab q)(i:ak):ah q:=(DU xs.length i).bind λj=>xs[j]?
def alv(h:DU n i=aa j):seqIndex? i n=aa j/\j<n/\-n<=i/\i<n:=by
 delta DU at h;by_cases h0:0<=i
 .rw[aj h0]at h;by_cases Z:i<n;.rw[aj Z]at h;show⟨by rw[avm h0 Z,(fo h)],yL,yL,Z⟩
  .rw[ao Z]at h;trivial
 .rw[ao h0]at h;by_cases Z:-n<=i;.rw[aj Z]at h;show⟨by rw[seqIndex_neg yL Z,(fo h)],yL,Z,yL⟩
  .rw[ao Z]at h;trivial
def afw(h:BQ xs i=aa v):∃j,seqIndex? i xs.length=aa j/\xs[j]?=aa v/\j<xs.length/\-xs.length<=i/\i<xs.length:=by
 delta BQ at h;cases e:DU xs.length i with
 |none=>walk
 |some j=>rw[e]at h;show ly (alv e) λZ h2 q W=>ki j Z h h2 q W
def afx(xs)(v:j):BQ (xs++[v]) (-1)=aa v:=by
 let hl:(xs++[v]).length=xs.length+1:=yS;let e:DU (xs++[v]).length (-1)=aa xs.length:=by delta DU;rw[hl,ao yD,aj yL];grind
 simp_all[BQ]
def WI(b:Expr):Prop:=∀o i,ZF b ag o i=avn [o,i] (yb o i)
def N1(X:Cx)(r:R2):Prop:=
 ∀value j pins s B H x y v u Q,Inv X pins B H s->RelV x v->RelV y u->r x y H Q->
  ZF j ag v u=avn [v,u] (yb v u)->ax (az X.prog X.w) X.A (subscriptTail value j v u) (EP X pins B Q) X.xe s
def N2(X:Cx)(id:qf)(r:V->ab V->Hp->VK->Prop):Prop:=
 ∀pins s B H x xs v us Q,Inv X pins B H s->RelV x v->Vals xs us->r x xs H Q->
  ax (az X.prog X.w) X.A (call (.builtin id) (v::us)) (EP X pins B Q) X.xe s
section
variable{X:Cx}{a b:Expr}{ta tb:TE}{pos:Pos}
def afy(hr:N1 X r)(ha:PE X a ta)(j:PE X b tb)(W:WI b):PE X (.Subscript a b pos) (KH r ta tb):=by show λpins s B H Q I h=>avk (afp ha j I h λv u s2 x y H2 I2 rx ry q=>hr a b pins s2 B H2 x y v u Q I2 rx ry q (W _ _))
inductive alw(K:ba)(x y:V)(H:Hp)(Q:VK):Prop|mk(p)(xs)(i)(v)(h0:x=.ref p)(Z:y=.int i)(h2:AR K H p xs)(h3:BQ xs i=aa v)(h4:Q v H):alw K x y H Q
inductive alx(K:ba)(x y:V)(H:Hp)(Q:VK):Prop|mk(p)(xs)(i)(v)(h0:x=.ref p)(Z:y=.int i)(h2:AS K H p xs)(h3:BQ xs i=aa v)(h4:Q v H):alx K x y H Q
inductive aly(x y:V)(H:Hp)(Q:VK):Prop|mk(z)(i)(c)(h0:x=.str z)(Z:y=.int i)(h2:z.length<=aw)(h3:BQ z.cps.toList i=aa c)(h4:Q (.str ⟨#[c]⟩) H):aly x y H Q
def afz:N1 X (alw X.K):=by
 show λvalue slice pins s B H x y v u Q I rx ry h hs=>QY λzz=>?_;let⟨p,xs,i,z,rfl,rfl,hq,he,q⟩:=h;cases rx;let⟨t,rfl⟩:=ry;show bz (I.list hq) λU r pl hz=>zc (afw he) λj Z h2 h3 h4 h5=>?_;let⟨w,ew,rw'⟩:=r.get h2;let hl:=r.length;let hn:=wx;let fin:EP X pins B Q w s:=⟨z,H,I,rw',q⟩;by_cases h0:0<=i
 .let hj:=by rw[avm h0 h5]at Z;show fo Z
  apply zz.f;show item_listR pl.isList h0 yL (by rw[hj];simpa using ew) fin hs
 .let hj:(i+U.toArray.size).toNat=j:=by rw[seqIndex_neg yL h4]at Z;erw[uw,<-hl,fo Z]
  apply zz.f;show bgy pl.isList.typeIs bgz.lookup
   (wpAny_getItem_list_neg pl.isList yL (by rw[uw]<;>lia) yL (by rw[hj];simpa using ew) ⟨rfl,fin⟩) hs
def alz:N1 X (alx X.K):=by
 show λvalue W pins s B H x y v u Q I rx ry h hs=>QY λzz=>?_;let⟨p,xs,i,z,rfl,rfl,hq,he,q⟩:=h;cases rx;let⟨t,rfl⟩:=ry;show bz (I.tuple hq) λU r pl hz=>zc (afw he) λj Z h2 h3 h4 h5=>?_;let⟨w,ew,rw'⟩:=r.get h2;let hn:=wx;apply zz.f;show bgy pl.typeIs ZE.lookup
  (getItem_tuple pl yL yL (by rw[uw,<-r.length];omega) yA ⟨rfl,(⟨z,H,I,rw',q⟩)⟩) hs
def azs:N1 X aly:=by
 show λvalue W pins s B H x y v u Q I rx ry h hs=>QY λw=>?_;let⟨z,i,c,rfl,rfl,hz,he,q⟩:=h;let⟨t,rfl⟩:=rx;let⟨t',rfl⟩:=ry;show zc (afw he) λj Z h2 h3 h4 h5=>?_;let hl:z.cps.toList.length=z.length:=by rfl
 rw[hl]at Z h4 h5;let hn:=wx;apply w.f;show tail_any (UX s z t) slot_str_getitem.lookup (getItem_str (c:=c) (by lia) (by rw[Z];simpa using h2) ⟨.str ⟨#[c]⟩,H,I.tok _,⟨_,rfl⟩,q⟩) hs
def azt(U:ab a6)(n j)(u):ZG (·.setIfInBounds j u) {cls:=.type "list",data:=.seq U.toArray n}={cls:=.type "list",data:=.seq (U.set j u).toArray n}:=by simp[ZG]
def Inv.lst(I:Inv X pins B H s)(h:H p=aa (.lst xs)):
 ∃U n,Vals xs U/\s.heap.get? p=aa {cls:=.type "list",data:=.seq U.toArray n}/\xs.length<=sizeLine:=by show vd (I.bu p _ h) λz U n r e=>dq U n r e z
def Inv.azu{B:St}{H}{s}{p}{xs ys}{U j:ab a6}{n W}{f}(I:Inv X pins B H s)(h:H p=aa (.lst xs))
 (ho:s.heap.get? p=aa {cls:=.type "list",data:=.seq U.toArray n})(hf:f {cls:=.type "list",data:=.seq U.toArray n}={cls:=.type "list",data:=.seq j.toArray W})(r:Vals ys j)(hz:ys.length<=aw)(t):
 Inv X pins B (upd H p (.lst ys)) {s with heap:=s.heap.update p f,toks:=t}:=by
 let e:(s.heap.update p f).get? p=aa {cls:=.type "list",data:=.seq j.toArray W}:=by rw[ZH f ho (by rw[hf]<;>rfl),hf]
 show I.write (by rw[h];trivial) (.inl rfl) (λb u hb q=>(bg0 _ _ (ji hb)).trans q) ⟨_,e⟩ (rh hz j W r e)
inductive al0(o i v:V)(H:Hp)(Q:Hp->Prop):Prop|mk(p)(xs)(k)(j)(h0:o=.ref p)(Z:i=.int k)(h2:H p=aa (.lst xs))(h3:DU xs.length k=aa j)(h4:Q (upd H p (.lst (xs.set j v)))):al0 o i v H Q
def set_list:AAB X al0:=by
 show λpins s B H o i v ov iv u Q I ro ri rv h=>QY λz=>?_;let⟨p,xs,k,j,rfl,rfl,hp,hj,q⟩:=h;cases ro;let⟨t,rfl⟩:=ri;show b7 (I.lst hp) λU n r ho hz=>ly (alv hj) λZ h2 h3 h4=>?_;let hl:=r.length;let hn:=wx;let I':=
  I.azu hp ho (azt U n j u) (r.set rv j) (by erw[qj,hz]) s.toks;by_cases h0:0<=k
 .let hk:=by rw[avm h0 h4]at Z;show fo Z
  apply z.f;show PySem.W.ki_setAt ho h0 yL (by erw[uw,<-hl,h4]) (by erw[hk,ap _ I' q])
 .let hk:(k+U.toArray.size).toNat=j:=by rw[seqIndex_neg yL h3]at Z;walk
  apply z.f;show PySem.W.ki_setBack ho yL (by erw[uw,<-hl,h3]) yL (by erw[hk,ap _ I' q])
def azv(lo hi)(n):(UY lo hi af n).1=HT.BL n 0 lo/\(UY lo hi af n).2.1=HT.BL n n hi/\(UY lo hi af n).2.2=1:=by
 show⟨?_,?_,rfl⟩;.cases lo with
  |none=>rfl
  |some i=>
   rwa[UY,HT.BL,Option.getD_none,show(1:ak)>0 by decide,jk];by_cases h:i<0;.rwa[h,jk]<;>lia
   .simp[h,yg]<;>lia
 .cases hi with
  |none=>rfl
  |some i=>
   simp[UY,HT.BL];by_cases h:i<0;.rwa[h,jk]<;>lia
   .rwa[h,yg]<;>lia
def azw(U:ab a6)(lo hi):slicePick U.toArray lo hi af=((U.drop (HT.BL U.length 0 lo)).take (HT.BL U.length U.length hi-HT.BL U.length 0 lo)).toArray:=by show d9 (azv lo hi U.toArray.size) λZ h2 j=>?_;delta slicePick;rwa[Z,h2,j];rwa[sliceRange_one,pick_run]<;>rfl
inductive al2(K:ba)(x:V)(lo hi:ah ak)(H:Hp)(Q:VK):Prop|mk(a:_)(xs:_)(h0:x=.ref a)(Z:AR K H a xs)(h2:∀p,H p=af->Q (.ref p) (upd H p (.lst (KL xs lo hi)))):al2 K x lo hi H Q
def al3:RI X (al2 X.K):=by show λpins s B H x v vl vu lo hi sl Q I rx hs pl pu h=>QY λz=>?_;let⟨a,xs,rfl,hx,q⟩:=h;cases rx;show bz (I.list hx) λU r W hz=>?_;let j:=r.length;apply z.f;show dq ("list") _ bgz.lookup W.isList.typeIs (wpAny_getItem_list_slice W.isList hs pl pu .none yS ?_ yA);erw[azw,<-j,⟨.ref s.heap.objs.size,_,I.laid (λb ob q=>dg _ q) (b8 _) ?_,rfl,q _ (I.bu.fresh (b8 _))⟩];show rh (jh (alr xs lo hi) hz) _ 0 ((r.drop _).take _) (f7 _ rfl)
def abr:B4 X (.builtin "len") (λxs H Q=>∃p ys,xs=[.ref p]/\(AR X.K H p ys\/AS X.K H p ys)/\Q (.int ys.length) H):=by
 show λpins s B H xs us Q I r h=>QY λz=>?_;let⟨p,ys,rfl,j,q⟩:=h;let⟨u,rfl,rx⟩:=vals1 r;cases rx;let hn:=wx;obtain j|j:=j;.let⟨U,r',pl,hz⟩:=I.list j;let W:=r'.length;apply z.f;show Calls.call_len_list pl.isList (by rwa[uw]<;>lia) ⟨.int ys.length,H,I.tok _,⟨s.toks+1,by grind⟩,q⟩
 .let⟨U,r',pl,hz⟩:=I.tuple j;let W:=r'.length;apply z.f;show len_tuple pl (by rwa[uw]<;>lia) ⟨.int ys.length,H,I.tok _,⟨s.toks+1,by grind⟩,q⟩
def azx:B4 X (.builtin "len") (λxs H Q=>∃z,xs=[.str z]/\z.length<=aw/\Q (.int z.length) H):=by intro pins s B H xs us Q I r h;let⟨z,rfl,hz,q⟩:=h;let⟨u,rfl,t,rfl⟩:=vals1 r;let j:=wx;show len_str yL ⟨.int z.length,H,I.tok _,⟨_,rfl⟩,q⟩
def bk6:B4 X (.type "list") (λxs H Q=>∃p ys,xs=[.ref p]/\(AR X.K H p ys\/AS X.K H p ys)/\∀l,H l=af->Q (.ref l) (upd H l (.lst ys))):=by
 show λpins s B H xs us Q I r h=>QY λz=>b7 h λp ys j hq q=>?_;clear h;subst j;let⟨u,rfl,rx⟩:=vals1 r;cases rx;let fin:∀U,Vals ys U->ys.length<=aw->∀h' W,_->
  h'.get? s.heap.objs.size=aa {cls:=.type "list",dict:=af,data:=.seq U.toArray W,slots:=#[]}->EP X pins B Q _ {s with heap:=h'}:=λU r' hz h' W kp e=>
  ⟨.ref s.heap.objs.size,_,I.laid kp (b8 _) (show CB X.prog X.w _ h' _ (.lst ys)from(rh hz U W r' e)),rfl,q _ (I.bu.fresh (b8 _))⟩;obtain hq|hq:=hq;.let⟨U,r',pl,hz⟩:=I.list hq;let hlen:=r'.length;let⟨o,ho,hc,n,hd⟩:=pl.isList;apply z.f;show bg1 p (.inl rfl) ho hc hd (λh' W kp e=>fin U r' hz h' W kp e) (by grind)
 .let⟨U,r',pl,hz⟩:=I.tuple hq;let hlen:=r'.length;let⟨o,ho,hc,n,hd⟩:=pl;apply z.f;show bg1 p (.inr rfl) ho hc hd (λh' W kp e=>fin U r' hz h' W kp e) (by grind)
def azy:B4 X (.type "tuple") (λxs H Q=>∃p ys,xs=[.ref p]/\((AR X.K H p ys/\∀l,H l=af->Q (.ref l) (upd H l (.tup ys)))\/(AS X.K H p ys/\Q (.ref p) H))):=by
 intro pins s B H xs us Q I r h;let⟨p,ys,rfl,h⟩:=h;let⟨u,rfl,rx⟩:=vals1 r;cases rx;obtain⟨j,q⟩|⟨j,q⟩:=h
 .let⟨U,W,pl,hz⟩:=I.list j;let hlen:=W.length;show call_tuple_list pl.isList (λh' kp=>?_) (by grind);let I1:=I.kept (t':=s.toks) kp;let I2:=
   I1.laid (t':=s.toks) (λb o e=>dg _ e) (b8 _) (show CB X.prog X.w _ _ _ (.tup ys)from(aar hz U W (avl _ _)));show⟨.ref h'.objs.size,_,I2,rfl,q _ (I1.bu.fresh (b8 _))⟩
 .let⟨U,W,pl,hz⟩:=I.tuple j;show call_tuple_same pl ⟨.ref p,H,I,rfl,q⟩
def WJ(K:ba)(T:qf)(x:V)(H:Hp):Prop:=match x with
 |.str _=>T="str"
 |.int _=>T="int"
 |.ref p=>(T="list"/\∃xs,AR K H p xs)\/(T="tuple"/\∃o,K.lookup p=aa o/\o.cls=.type "tuple"/\o.dict=af)\/
  (T="dict"/\∃kvs,H p=aa (.dK kvs))
 |_=>il
def al4(I:Inv X pins B H s)(r:RelV x v)(ty:WJ X.K T x H):
 s.TypeIs v T/\∀a,v=.ref a->∃q,s.heap.get? a=aa q/\q.dict=none:=by
 cases x with
 |str z=>let⟨t,rfl⟩:=r;cases(ty);simp[UX]
 |int i=>let⟨t,rfl⟩:=r;cases(ty);simp[typeIs_int]
 |ref p=>
  cases r;obtain⟨rfl,xs,hq⟩|⟨rfl,o,j,hc,hd⟩|⟨rfl,j⟩:=ty;.show bz (I.list hq) λU _ W _=>⟨W.isList.typeIs,λa e=>?_⟩;cases e;show fg W λo n e c hd _=>ap o e hd
  .show⟨(ap o (I.gh p o j) hc),λa e=>?_⟩;cases e;show ap o (I.gh _ o j) hd
  .show xE j λkvs j=>j5 (I.bu p _ j) λ_ _ _ _ z=>kj z λo _ _ e ex _=>⟨(ap o e ex.1),λa e2=>?_⟩;cases e2;show ap o e ex.2.1
 |_=>show ya ty
def ADC(K:ba)(T:qf)(r:V->ab V->Hp->VK->Prop)(to:TE):TE:=λB H Q=>to B H λx Y=>WJ K T x Y/\r x [] Y Q
noncomputable def tBM(K:ba)(T:qf)(r:V->ab V->Hp->VK->Prop)(to:TE)(t:TA):TE:=λB H Q=>to B H λx Y=>WJ K T x Y/\t B Y λxs H2=>r x xs H2 Q
variable{o e:Expr}{es:ab Expr}{to:TE}{t:TA}{name:Str}{apos cpos:Pos}{T id:qf}{r:V->ab V->Hp->VK->Prop}
section
variable(pa:PlainAttrs T)(slot:Slot T name id)(hty:typeOf (.builtin id)=pure (.type "method_descriptor"))(hm:N2 X id r)
include pa slot hty hm
def al5(ho:PE X o to)
 (j:attributeBase o name X.env (eval o X.env)=eval o X.env:=by rfl)(q:(apos.endLine==cpos.line)=true:=by rfl):PE X (.Call (.Attribute o name apos) [] [] cpos) (ADC X.K T r to):=by show λpins s B H Q I h=>wpAny_Call_method0_late j q (bg (ho pins s B H _ I h) λv s1 z=>?_);let⟨x,Y,W,r1,ty,q1⟩:=z;let⟨Z,h2⟩:=al4 W r1 ty;show aas T id pa slot hty Z h2 (MY rfl (avo (hm pins s1 B Y x [] v [] Q W r1 .nil q1)))
def vh(ho:PE X o to)(ha:PA X (e::es) t)
 (q:attributeBase o name X.env (eval o X.env)=eval o X.env:=by rfl)
 (hfew:((kb cpos (ed (e::es) X.env)).all (λx=>!x.1)&&(UR cpos (US [] X.env)).all (λx=>x.1.isSome)
   &&decide ((e::es).length+([]:ab MO).length+(if([]:ab MO).isEmpty then 0 else 1)<30))=true:=by rfl)
 (W:(apos.endLine==cpos.line)=true:=by rfl)(hs:ed (e::es) X.env=(ag,eval e X.env)::ed es X.env:=by rfl)(j:(kb cpos (ed es X.env)).any (·.1)=false:=by rfl):
 PE X (.Call (.Attribute o name apos) (e::es) [] cpos) (tBM X.K T r to t):=by show λpins s B H Q I h=>avp q hfew W rfl (bg (ho pins s B H _ I h) λv s1 z=>QY λw=>?_);let⟨x,Y,I1,r1,ty,q1⟩:=z;let⟨Z,h2⟩:=al4 I1 r1 ty;apply w.f;show aas T id pa slot hty Z h2 ?_;let hA:=ha cpos pins s1 B Y _ I1 q1;rw[hs]at hA⊢;show MY (by change(ag||(kb cpos _).any _)=ag;rw[j]<;>rfl) (ZI (bg hA λus s2 zz=>?_));let⟨vs,H2,I2,r2,q2⟩:=zz;show hm pins s2 B H2 x vs v us Q I2 r1 r2 q2
end
end
def RJ(X:Cx)(id:qf)(r:V->ab V->Hp->VK->Prop):Prop:=
 ∀pins s B H x xs v us Q,Inv X pins B H s->RelV x v->Vals xs us->r x xs H Q->
  ax (az X.prog X.w) X.A (call (.builtin id) (v::us)) (EP X pins B Q) X.xe s
def Vals.one{x us}(h:Vals [x] us):∃u,us=[u]/\RelV x u:=by cases h with|cons r t=>cases t;show ap _ rfl r
def Vals.two{x y us}(h:Vals [x,y] us):∃u v,us=[u,v]/\RelV x u/\RelV y v:=by cases h with|cons r t=>cases t with|cons q t=>cases t;show dq _ _ rfl r q
def Vals.zero:∀{us},Vals [] us->us=[]
 |_,.nil=>rfl
def Vals.dropLast(h:Vals xs us):Vals xs.dropLast us.dropLast:=by
 induction h with
 |nil=>show .nil
 |cons r t j=>
  cases t with
  |nil=>show .nil
  |cons q t'=>show .cons r j
section
variable{X:Cx}{pins:ab (Addr×Obj)}{B:St}{H:Hp}{s:cu}{l b:Addr}{xs ys zs:ab V}
def Inv.adg{U j:ab a6}{n}{f}{t'}(I:Inv X pins B H s)(W:H l=aa (.lst xs))
 (e:s.heap.get? l=aa {cls:=.type "list",data:=.seq U.toArray n})(hf:f U.toArray=j.toArray)(hv:Vals ys j)(hz:ys.length<=aw):
 Inv X pins B (upd H l (.lst ys)) {s with heap:=s.heap.update l (ZG f),toks:=t'}:=by let q:=blv e f;rw[hf]at q;show I.write (by erw[W,trivial]) (.inl rfl) (λb' u hb hu=>(bg0 s.heap _ (ji hb)).trans hu) ⟨_,q⟩ (rh hz j _ hv q)
section
variable(I:Inv X pins B H s)
include I
def Inv.azz(j:Vals ys U)(hz:ys.length<=aw):
 Inv X pins B (upd H s.heap.objs.size (.lst ys)) {s with heap:=s.heap.push {cls:=.type "list",data:=.seq U.toArray},toks:=t'}:=
 I.laid (λW W q=>dg _ q) (b8 _) (rh hz U 0 j (f7 _ rfl))
def Inv.fresh:H s.heap.objs.size=none:=I.bu.fresh (b8 _)
def Inv.wy(j:H l=aa (.lst xs)):xs.length<=aw/\∃U n,Vals xs U/\xs.length=U.length/\s.heap.get? l=aa {cls:=.type "list",data:=.seq U.toArray n}:=by show vd (I.bu l _ j) λz U n r e=>⟨z,U,n,r,r.length,e⟩
end
def al6(h:n<=aw):ZJ n=false:=gi yL
end
section
variable{X:Cx}
inductive al7(x:V)(vs:ab V)(H:Hp)(Q:VK):Prop|mk(l)(xs)(y)(h0:x=.ref l)(Z:vs=[y])(h2:H l=aa (.lst xs))(h3:xs.length<aw)(h4:Q .bj (upd H l (.lst (xs++[y])))):al7 x vs H Q
def abt:RJ X "list.append" al7:=by show λpins s B H x vs v us Q I W rv h=>QY λw=>?_;let⟨l,xs,y,rfl,rfl,j,hz,q⟩:=h;cases W;let⟨u,rfl,ru⟩:=rv.one;show j6 (I.wy j) λz U n r hl e=>?_;apply w.f;show UZ QN (ap _ e rfl) F.entry_list_append (F.args_list_append_2 _ _) (PySem.list_append l U.toArray n u yA) ⟨e,⟨.bj,_,I.adg j e yS (r.append (.cons ru .nil)) ?_,rfl,q⟩⟩;grind
inductive al8(x:V)(vs:ab V)(H:Hp)(Q:VK):Prop|mk(l)(b)(xs)(zs)(h0:x=.ref l)(Z:vs=[.ref b])(h2:H l=aa (.lst xs))(h3:H b=aa (.lst zs))(h4:xs.length+zs.length<=aw)(h5:Q .bj (upd H l (.lst (xs++zs)))):al8 x vs H Q
def al9:RJ X "list.extend" al8:=by
 show λpins s B H x vs v us Q I rx rv h=>QY λw=>?_;let⟨l,b,xs,zs,rfl,rfl,hH,hB,hz,q⟩:=h;cases rx;let⟨u,rfl,ru⟩:=rv.one;cases ru;show j6 (I.wy hH) λz U n r hl e=>j6 (I.wy hB) λz2 j n2 r2 hl2 e2=>?_;let hsz:U.toArray.size+j.toArray.size<=sizeLine:=yA;let W:¬(!U.toArray.isEmpty&&ZJ (U.toArray.size+j.toArray.size))=true:=by rw[al6 hsz,kr];simp
 apply w.f;show UZ U0 (ap _ e rfl) bg2 (bg3 _ _)
  (AutoSeq1.list_extend_list_list_0 l U.toArray n b j.toArray n2 W yL yL) ⟨e,e2,⟨.bj,_,I.adg hH e yS (r.append r2) ?_,rfl,q⟩⟩;walk
inductive ama(x:V)(vs:ab V)(H:Hp)(Q:VK):Prop|mk(l)(xs)(y)(h0:x=.ref l)(Z:vs=[])(h2:H l=aa (.lst xs))(h3:xs[xs.length-1]?=aa y)(h4:Q y (upd H l (.lst xs.dropLast))):ama x vs H Q
def az0:RJ X "list.pop" ama:=by
 show λpins s B H x vs v us Q I rx rv h=>QY λw=>?_;let⟨l,xs,y,rfl,rfl,hH,hy,q⟩:=h;cases rx;let j:=rv.zero;subst j;show j6 (I.wy hH) λz U n r hl e=>?_;let⟨u,hu,ru⟩:=r.get hy;let W:=by change U.toArray[U.length-1]?=aa u;walk
 apply w.f;show UZ bg4 (ap _ e rfl) F.entry_list_pop (F.args_list_pop_1 _) (MeetsSeq.list_pop_last l U.toArray n u W yA) ⟨e,⟨y,_,I.adg hH e ?_ r.dropLast ?_,ru,q⟩⟩;.simp
 .rw[List.length_dropLast];omega
inductive amb(x y:V)(H:Hp)(Q:VK):Prop|mk(l)(b)(xs)(zs)(h0:x=.ref l)(Z:y=.ref b)(h2:H l=aa (.lst xs))(h3:H b=aa (.lst zs))(h4:xs.length+zs.length<=aw)(h5:∀p,H p=af->Q (.ref p) (upd H p (.lst (xs++zs)))):amb x y H Q
def az1:BS X (vz .Add) amb:=by show λpins s B H x y v u Q I W ry h=>QY λw=>?_;let⟨l,b,xs,zs,rfl,rfl,hH,hB,hz,q⟩:=h;cases W;cases ry;show j6 (I.wy hH) λz U n r hl e=>j6 (I.wy hB) λz2 j n2 r2 hl2 e2=>?_;apply w.f;show PySem.P.add_list e e2 ?_ yA;let ea:U.toArray++j.toArray=(U++j).toArray:=yS;erw[ea,⟨.ref _,_,I.azz (r.append r2) yA,rfl,q _ I.fresh⟩]
end
def Vals.ints:∀{ns}{us},Vals (ns.map V.int) us->IntsAre us ns
 |[],us,h=>by cases h;show IntsAre.nil
 |n::ns,us,h=>by
  cases h with
  |cons r t=>let⟨k,rfl⟩:=r;show IntsAre.cons n k (Vals.ints t)
def Vals.zo:∀{bs:ab a4}{us},Vals (bs.map V.bl) us->us=bs.map xw
 |[],us,h=>by cases h;rfl
 |b::bs,us,h=>by
  cases h with
  |cons r t=>cases r;rw[Vals.zo t,b9]
def Vals.af0(r:Vals [V.ref a] us):us=[ko a]:=by
 cases r with
 |cons r t=>cases t;cases r;rfl
section
variable{prog:de}{w:c9}{A:jg}{E:a6->cu->Prop}{s:cu}{l:Addr}{U:ab a6}{ns:ab ak}{Q:a6->cu->Prop}
def az2(q:A.handled=af)(hl:s.heap.IsList l U.toArray)(hi:IntsAre U ns)
 (h:∀h' tk t',(∀b o,s.heap.get? b=aa o->h'.get? b=aa o)->Q (.int ns.sum t') {s with heap:=h',toks:=tk}):ax (az prog w) A (call (.builtin "sum") [.ref l]) Q E s:=by
 show xE hi.allInts.items λxs e=>?_;let j:numsOf (intItems xs).toList=ns:=by erw[<-e,hi.numsOf]
 rw[nums_intItems]at j;rw[e]at hl;show PySem.sum_intListG q hl λh' tk t' W=>?_;let:=h h' tk t' W;rw[preSum_eq,U1 yS,j];omega
end
section
variable{X:Cx}
inductive amc(K:ba)(vs:ab V)(H:Hp)(Q:VK):Prop|mk(a:Addr)(ns:ab ak)(h0:vs=[V.ref a])(Z:AR K H a (ns.map V.int))(h2:Q (.int ns.sum) H):amc K vs H Q
def az3(hc:X.calm=ae):B4 X (.builtin "sum") (amc X.K):=by show λpins s B H vs us Q I r h=>QY λz=>?_;let⟨a,ns,rfl,j,q⟩:=h;show bz (I.list j) λU W hl _=>?_;apply z.f;erw[Vals.af0 r,az2 (I.ok.hd hc) hl.isList W.ints λh' tk t' hk=>⟨.int _,H,I.kept hk,⟨_,rfl⟩,q⟩]
end
def amd{E}{s}{l}{q}{Q}(hl:s.heap.IsList l q)
 (h:∀j:cu,j={s with heap:=s.heap.push {cls:=.type "list_iterator",data:=.fields #[.ref l,.int 0 0]}}->
   (j.heap.IsListIter s.heap.objs.size l 0/\j.heap.IsList l q)->l≠s.heap.objs.size->Q (.ref s.heap.objs.size) j):ax (az prog w) A (yc (.ref l)) Q E s:=by show Y6 hl (h _ rfl ⟨(et _ (f7 _ rfl) rfl rfl),hl.push _⟩ (g9 (by show au hl λ_ e _=>ec e)))
def ame{bs:ab a4}(e:U=bs.map xw):
 TruthOf prog w A (λi v=>U.toArray[i]?=aa v) (λi=>bs.getD i ag):=λi v s Q E q W=>by
 let j:=by simpa using q
 rw[e,i9]at j;let⟨b,hb,rfl⟩:=bo j;simp_all[yh,ul]
def any_range:∀bs:ab a4,(e6 bs.length).any (λi=>bs.getD i ag)=bs.any id
 |[]=>rfl
 |b::bs=>by rwa[d6,avq,MZ,U2,MZ,<-any_range bs];rfl
def all_range:∀bs:ab a4,(e6 bs.length).all (λi=>bs.getD i ag)=bs.all id
 |[]=>rfl
 |b::bs=>by rwa[d6,avq,ux,bg5,ux,<-all_range bs];rfl
section
variable{X:Cx}
inductive amf(K:ba)(vs:ab V)(H:Hp)(Q:VK):Prop|mk(a:Addr)(bs:ab a4)(h0:vs=[V.ref a])(Z:AR K H a (bs.map V.bl))(h2:Q (.bl (bs.any id)) H):amf K vs H Q
inductive amg(K:ba)(vs:ab V)(H:Hp)(Q:VK):Prop|mk(a:Addr)(bs:ab a4)(h0:vs=[V.ref a])(Z:AR K H a (bs.map V.bl))(h2:Q (.bl (bs.all id)) H):amg K vs H Q
def az4(hc:X.calm=ae):B4 X (.builtin "any") (amf X.K):=by
 show λpins s B H vs us Q I r h=>QY λz=>?_;let⟨a,bs,rfl,hs,q⟩:=h;show bz (I.list hs) λU rv hl _=>?_;apply z.f;rw[Vals.af0 r];let hb:=rv.zo;show call_any_walk (amd hl.isList λs₂ e2 st W=>?_);subst e2;show⟨_,_,_,_,_,_,_,rfl,avr (A:=X.A.in1) (I.ok.hd hc) _ a W U.toArray,st,ame hb,λh' tk hk=>⟨.bl _,H,I.kept λb o eo=>hk b o (λj=>?_) (dg _ eo),?_,q⟩⟩
 .obtain e1|j:=df.mp j;.show cj (e1▸ec eo) (xy _)
  walk
 .change xw _=xw _;rw[<-any_range,hb,uw,bt]
def az5(hc:X.calm=ae):B4 X (.builtin "all") (amg X.K):=by
 show λpins s B H vs us Q I r h=>QY λz=>?_;let⟨a,bs,rfl,hs,q⟩:=h;show bz (I.list hs) λU rv hl _=>?_;apply z.f;rw[Vals.af0 r];let hb:=rv.zo;show call_all_walk (amd hl.isList λs₂ e2 st W=>?_);subst e2;show⟨_,_,_,_,_,_,_,rfl,avr (A:=X.A.in1) (I.ok.hd hc) _ a W U.toArray,st,ame hb,λh' tk hk=>⟨.bl _,H,I.kept λb o eo=>hk b o (λj=>?_) (dg _ eo),?_,q⟩⟩
 .obtain e1|j:=df.mp j;.show cj (e1▸ec eo) (xy _)
  walk
 .change xw _=xw _;rw[<-all_range,hb,uw,bt]
end
mutual
inductive Dp(K:ba)(H:Hp):V->JT->Prop
 |bj:Dp K H .bj .none
 |bl(b:a4):Dp K H (.bl b) (.bool b)
 |int(i:ak):Dp K H (.int i) (.int i)
 |str(x:Str):Dp K H (.str x) (.str x)
 |lst{a:Addr}{xs:ab V}{ds:ab JT}:AR K H a xs->zp K H xs ds->Dp K H (.ref a) (.list ds)
 |tup{a:Addr}{xs:ab V}{ds:ab JT}:AS K H a xs->zp K H xs ds->Dp K H (.ref a) (.tuple ds)
inductive zp(K:ba)(H:Hp):ab V->ab JT->Prop
 |nil:zp K H [] []
 |cons{v:V}{vs:ab V}{d:JT}{ds:ab JT}:Dp K H v d->zp K H vs ds->zp K H (v::vs) (d::ds)
end
section
variable{X:Cx}{pins:ab (Addr×Obj)}{B:St}{H:Hp}{s:cu}
mutual
theorem Dp.reads(I:Inv X pins B H s):∀d v u,Dp X.K H v d->RelV v u->∃as,Reads s.heap u d as
 |.none,_,_,h,r=>by cases h;cases r;show⟨_,Reads.none⟩
 |.bool b,_,_,h,r=>by cases h;cases r;show⟨_,Reads.bool b⟩
 |.int i,_,_,h,r=>by cases h;let⟨t,rfl⟩:=r;show⟨_,Reads.int i t⟩
 |.str x,_,_,h,r=>by cases h;let⟨t,rfl⟩:=r;show⟨_,Reads.str x t⟩
 |.list ds,_,_,h,r=>by
  cases h with
  |lst j ha=>cases r;let⟨U,q,⟨o,n,ho,hc,_,hd⟩,_⟩:=I.list j;let⟨as,hr⟩:=Dp.readsAll I ds _ U ha q;show⟨_,Reads.list ho hc hd hr⟩
 |.tuple ds,_,_,h,r=>by
  cases h with
  |tup j ha=>cases r;let⟨U,q,⟨o,ho,hc,n,hd⟩,_⟩:=I.tuple j;let⟨as,hr⟩:=Dp.readsAll I ds _ U ha q;show⟨_,Reads.tuple ho hc hd hr⟩
 |.dict _,_,_,h,_=>by cases h
theorem Dp.readsAll(I:Inv X pins B H s):∀ds vs us,zp X.K H vs ds->Vals vs us->∃as,ReadsAll s.heap us ds as
 |[],_,_,h,r=>by cases h;cases r;show⟨_,ReadsAll.nil⟩
 |d::ds,_,_,h,r=>by
  cases h with
  |cons Z h2=>
   cases r with
   |cons r1 r2=>let⟨as,W⟩:=Dp.reads I d _ _ Z r1;let⟨bs,q2⟩:=Dp.readsAll I ds _ _ h2 r2;show⟨_,ReadsAll.cons W q2⟩
end
end
end L2
namespace L2
open PySem PySem.Spec PyProof.Rows
abbrev amh(h:Heap)(c:Addr)(v:ah a6):Prop:=h.IsCell c v
def ADD(j sc:cz):Scope:=
 {j with names:=j.names.map fun(n,k)=>if(k==.free&&sc.kind==.function&&sc.names.lookup n==aa .cell)then(n,.cell)else(n,k)}
def DW(j:ab (Str×Addr)):ab (Str×avs)->ab (Str×Addr)->ab (Str×Addr)
 |[],acc=>acc
 |(n,k)::r,acc=>if k==.free then DW j r ((n,(j.lookup n).getD 0)::acc)else DW j r acc
def ami(env)(f)
 (hf:∀n k c,f (n,k) c=if k==.free then(do let a<-cellOf env n;pure (.yield ((n,a)::c)))else pure (.yield c)):
 ∀(names)(acc),(∀y∈names,y.2=.free->∃c,env.cells.lookup y.1=aa c)->forIn names acc f=pure (DW env.cells names acc)
 |[],acc,_=>rfl
 |(n,k)::r,acc,h=>by
  rw[List.forIn_cons,hf];let ih:=λacc=>ami env f hf r acc λy hy=>h y (dj _ hy);delta DW;by_cases hk:(k==QO)=ae;.rw[aj hk,aj hk];grind[d7,cellOf]
  .erw[ao hk,ao hk,ih _]
def az6(h:∀y∈j.names,y.2=.free->∃c,env.cells.lookup y.1=aa c):closureFor j env=pure (DW env.cells j.names []):=by rw[closureFor];rw[ami env _ (λn k c=>rfl) j.names [] h];rfl
def mem_lookup{j:Type}:∀{l:ab (Str×j)}{n}{c},(n,c)∈l->∃q,l.lookup n=aa q
 |(k,v)::r,n,c,h=>by
  rwa[JU];cases W:n==k with
  |true=>simp
  |false=>
   obtain e|h:=df.mp h;.lia
   .show mem_lookup h
def adh:∀{j}{acc}{n}{c},(n,c)∈DW q j acc->(n,c)∈acc\/((n,.free)∈j/\c=(q.lookup n).getD 0)
 |[],_,_,_,h=>.inl h
 |(m,k)::r,acc,n,c,h=>by
  delta DW at h;k_lt h;.obtain h|⟨Z,h2⟩:=adh h;all_goals grind
  .obtain h|⟨Z,h2⟩:=adh h;all_goals grind
def af1:∀{j}{acc}{p},p∈acc->p∈DW q j acc
 |[],_,_,h=>h
 |(m,k)::r,acc,p,h=>by
  delta DW;split;.show af1 (dj _ h)
  .show af1 h
def af2:∀{j}{acc}{n},(n,.free)∈j->(n,(q.lookup n).getD 0)∈DW q j acc
 |(m,k)::r,acc,n,h=>by
  delta DW;obtain e|h:=df.mp h;.simp_all[af1,d7]
  .split;.show af2 h
   .show af2 h
def abu:∀{j}{h}{acc}{x}{c},(x,c)∈kf h.objs.size j acc->
 (x,c)∈acc\/((x,.cell)∈j/\h.objs.size<=c/\amh (M0 h j) c af)
 |[],_,_,_,_,h=>.inl h
 |(n,k)::r,h,acc,x,c,hm=>by
  delta kf at hm;delta M0;k_lt hm
  .ext q;rw[aj q];rw[<-jz h {cls:=.type "cell",data:=.cell af}]at hm;obtain hm|⟨Z,h2,W⟩:=abu hm
   .obtain e|hm:=df.mp hm;.cases e;show .inr ⟨(by simpa using q)▸d7,b8 _,_,ZK r _ _ _ (f7 _ rfl),rfl⟩
    .show .inl hm
   .rw[jz]at h2;show .inr ⟨dj _ Z,ZL h2,W⟩
  .ext q;rw[ao q];obtain hm|⟨Z,h2,W⟩:=abu hm;all_goals walk
def adi:∀{j}{n}{acc}{p},p∈acc->p∈kf n j acc
 |[],_,_,_,h=>h
 |(m,k)::r,n,acc,p,h=>by
  delta kf;split;.show adi (dj _ h)
  .show adi h
def af3:∀{j}{n}{acc}{x},(x,.cell)∈j->∃c,(x,c)∈kf n j acc
 |(m,k)::r,n,acc,x,h=>by
  delta kf;obtain e|h:=df.mp h;.grind[adi,d7]
  .split;.show af3 h
   .show af3 h
def af4:∀{j}{h:Heap}{acc}{x y}{c},(∀p∈acc,p.2<h.objs.size)->(∀x y c,(x,c)∈acc->(y,c)∈acc->x=y)->
 (x,c)∈kf h.objs.size j acc->(y,c)∈kf h.objs.size j acc->x=y
 |[],_,_,_,_,_,_,hi,Z,h2=>hi _ _ _ Z h2
 |(n,k)::r,h,acc,x,y,c,hl,hi,Z,h2=>by
  delta kf at Z h2;k_lt Z
  .ext q;rw[aj q]at h2;rw[<-jz h {cls:=.type "cell",data:=.cell af}]at Z h2;show af4 (λp hp=>?_) (λx y c a b=>?_) Z h2;.rw[jz];grind
   grind
  .ext q;rw[ao q]at h2;show af4 hl hi Z h2
def az7{E}{s}{j}{avt}{q}{qual}{func}{code}{around}{W}{Q}
 (h:Q (newEnv j s.heap.objs.size avt (kf (s.heap.objs.size+1) j.names q) qual func code (aa around) W)
   {s with heap:=M0 (s.heap.push {cls:=.type "dict",data:=.dict #[]}) j.names}):
 ax M A (newFunctionEnv j avt q [] qual func code (aa around) W) Q E s:=by show aq (wpAny_alloc (aq (wpAny_layCells _ (λn k c=>rfl) j.names q _ _ ?_)));erw[jz ..,aq (b4 (b4 h))]
def adj{sc:cz}:∀{j:ab (Str×avs)}{x}{k},
 (j.map fun(n,k)=>if(k==QO&&sc.kind==.function&&sc.names.lookup n==aa .cell)then(n,ZM)else(n,k)).lookup x=aa k->
 ∃k',j.lookup x=aa k'/\(k=k'\/(k'=.free/\k=.cell))
 |[],_,_,h=>yT
 |(n,W)::r,x,k,h=>by
  change ye x ((if _ then _ else _)::_)=_ at h;rw[JU];cases q:(W==QO&&sc.kind==.function&&sc.names.lookup n==aa .cell)<;>rw[q]at h
  .change ye x ((n,W)::_)=_ at h;rw[JU]at h;cases z:x==n<;>rw[z]at h;.show adj h
   .show⟨_,rfl,.inl (fo h).symm⟩
  .change ye x ((n,ZM)::_)=_ at h;rw[JU]at h;cases z:x==n<;>rw[z]at h;.show adj h
   .rw[cg,cg]at q;show⟨_,rfl,.inr ⟨eq_of_beq q.1.1,(fo h).symm⟩⟩
structure N3(N:ab Str)(sc scope:cz)(own:ab (Str×ai)):Prop where
 kind:scope.kind=.function
 WK:∀y∈scope.names,scope.names.lookup y.1=aa y.2
 ix:∀p∈own,N[p.2]?=aa p.1
 free:∀y∈scope.names,y.2=.free->sc.names.lookup y.1=aa .cell\/sc.names.lookup y.1=aa .free
 own:∀y∈scope.names,y.2=.local\/y.2=.cell->y.1∈own.map (·.1)\/y.1∉N
noncomputable def wipe(B:St):ab ai->St
 |[]=>B
 |v::vs=>(wipe B vs).set v af
def adk(B):∀vs,(wipe B vs).length=B.length
 |[]=>rfl
 |v::vs=>by delta wipe;rw[qj,adk B vs]
def af5:∀{vs},(wipe B vs)[i]?=aa (aa x)->B[i]?=aa (aa x)/\i∉vs
 |[],h=>⟨h,yS⟩
 |v::vs,h=>by
  delta wipe at h;by_cases hi:v=i;.grind
  .rw[ir hi]at h;let⟨Z,h2⟩:=af5 h;show⟨Z,by simp[sk];lia⟩
abbrev Cx.fm(X:Cx)(s:cu)(H:Hp)(j:cz)(q:Env)(fp:ab Addr):Cx:={X with jr:=s,zd:=H,env:=q,outer:=X.stack,ex:=fp,fn:=λx=>j.names.lookup x==aa .cell,pn:=[],xe:=λW W=>il}
section
variable{X:Cx}{pins:ab (Addr×Obj)}{B:St}{H:Hp}{s:cu}
def az8(I:Inv X pins B H s)(ok:N3 X.N X.env.scope j own)(hN:X.N.Nodup)(hfp:∀b∈fp,FA X pins H b/\b<s.heap.objs.size):
 Inv (X.fm s H j (ja j (kf (s.heap.objs.size+1) j.names (DW X.env.cells j.names [])) s.heap.objs.size X.env) fp) [] (wipe B (own.map (·.2))) H {s with heap:=M0 (s.heap.push {cls:=.type "dict",data:=.dict #[]}) j.names}:=by
 let hfree:∀y∈j.names,y.2=.free->∃c,X.env.cells.lookup y.1=aa c:=λy hy e=>by show(ok.free y hy e).elim (λk=>I.ok.has _ (.inl k)) λk=>I.ok.has _ (.inr k)
 generalize hcenv:ja j _ s.heap.objs.size X.env=W;let kp:∀b o,s.heap.get? b=aa o->(M0 (s.heap.push {cls:=.type "dict",data:=.dict #[]}) j.names).get? b=aa o:=λb o e=>ZK _ _ _ _ (dg _ e);let hL:W.locals=s.heap.objs.size:=by rw[<-hcenv];rfl
 let hcl:W.cells=kf (s.heap.objs.size+1) j.names (DW X.env.cells j.names []):=by rw[<-hcenv];rfl
 let hsc:W.scope=ADD j X.env.scope:=by rw[<-hcenv];rfl
 rw[<-jz s.heap {cls:=.type "dict",data:=.dict #[]}]at hcl;let cm:∀{y c},(y,c)∈DW X.env.cells j.names []->X.env.cells.lookup y=aa c/\c<s.heap.objs.size:=fun{y c}hm=>by
  obtain hm|⟨Z,rfl⟩:=adh hm;.cases hm
  .let⟨c,hc⟩:=hfree _ Z rfl;rw[hc];let⟨w,z⟩:=I.cell _ _ hc;show⟨rfl,z.lt⟩
 let mem:∀{y c},W.cells.lookup y=aa c->_\/(s.heap.objs.size+1<=c/\amh _ c af):=fun{y c}e=>by
  rw[hcl]at e;obtain hm|⟨_,h2,h3⟩:=abu (mq e);.show .inl (cm hm)
  .rw[jz]at h2;show .inr ⟨h2,h3⟩
 let look:∀{y},j.names.lookup y=aa .free->∃c,W.cells.lookup y=aa c/\X.env.cells.lookup y=aa c:=fun{y}hl=>by
  let⟨c',e'⟩:=mem_lookup (adi (af2 (acc:=[]) (mq hl)));rw[<-hcl]at e';show ap c' e' ?_;rw[hcl]at e';obtain hm|⟨Z,_,_⟩:=abu (mq e');.show(cm hm).1
  .let:=ok.WK _ Z;rw[hl]at this;cases this
 let RK:(X.fm s H j W fp).Ok:=by
  show⟨I.ok.mod,by erw[hsc,ok.kind],by change W.globals=_;erw[<-hcenv,I.ok.glob],by erw[<-hcenv,I.ok.blt],by erw[hL,b8 _],
   λy z c e1 e2=>?_,λy hy=>?_,λy c z e=>?_,I.ok.hd,I.ok.frames,.inl rfl,λb hb=>⟨?_,λy c e z=>?_⟩,I.bs,jh I.ok.vf I.sz,λb o e hb=>?_,λb hb z=>?_,I.stack,I.akl⟩;.rw[hcl]at e1 e2;show af4 (λp hp=>?_) (λy z c a b=>I.ok.inj y z c (cm a).1 (cm b).1) (mq e1) (mq e2);erw[jz,JV (cm (y:=p.1) (c:=p.2) hp).2]
  .let key:∀k,W.kindOf y=aa k->(k=.cell\/k=.free)->∃c,W.cells.lookup y=aa c:=λk hk hk'=>by
    delta Env.kindOf at hk;rw[hsc]at hk;show au (adj hk) λk' e r=>?_;let:k'=.cell\/k'=.free:=by
     obtain rfl|⟨rfl,_⟩:=r;.show hk'
     .show .inr rfl
    clear r;obtain rfl|rfl:=this;.let⟨c,hm⟩:=af3 (mq e);let⟨c',e'⟩:=mem_lookup hm;show⟨c',by erw[hcl,e']⟩
    .let⟨c,Z,_⟩:=look e;show⟨c,Z⟩
   show hy.elim (λhy=>key _ hy (.inl rfl)) λhy=>key _ hy (.inr rfl)
  .let z:=by simpa using z
   rw[hcl]at e;obtain hm|⟨_,h2,_⟩:=abu (mq e)
   .obtain hm|⟨Z,_⟩:=adh hm;.cases hm
    .let q:=ok.WK _ Z;rw[z]at q;cases q
   .rw[jz]at h2;show ZL h2
  .erw[hL,g9 (hfp b hb).2]
  .obtain⟨Z,_⟩|⟨Z,_⟩:=mem e;.show(hfp b hb).1.2.2.2.2.1 y c Z z
   .show cj (jf (hfp b hb).2 (ZL (by erw[<-z,Z]))) (xy _)
  .obtain z|z:=(hfp b hb).1.2.2.2.1;.show I.ok.NU b o e z
   .show cj (jf (ec e) (jh I.ok.vf z)) (xy _)
  .obtain z|z:=df.mp (I.aff b z);.show(hfp b hb).1.2.1 z
   .show(hfp b hb).1.2.2.1 z
 show⟨RK,rfl,I.bare,Un.kept kp,(ap (λζ=>af) ?_ (λi y av e1 e2 e3=>?_)),λy c e=>?_,?_,λy c e=>?_,λp hp=>cj (hp) yS,I.bu.kept kp,by erw[adk,I.len]⟩;.erw[hL,Heap.Ns.keeps (Heap.Ns.new ..) λb o e=>ZK _ _ _ _ e]
 .let⟨e2,hne⟩:=af5 e2;let hfr:j.names.lookup y=aa .free/\(W.kindOf y=aa .cell\/W.kindOf y=aa .free):=by
   let key:∀k,W.scope.names.lookup y=aa k->k=.local\/k=.cell\/k=.free->j.names.lookup y=aa .free/\(W.kindOf y=aa .cell\/W.kindOf y=aa .free):=λk hk hk'=>by
    let hk0:=hk;rw[hsc]at hk;show au (adj hk) λk' e r=>?_;let no:¬_:=λhh=>by
     obtain e'|e':=ok.own _ (mq e) hh;.let⟨p,hp,hpy⟩:=gx.mp e';let e3:=ok.ix p hp;let:p.1=y:=hpy;rw[this]at e3;show hne (gx.mpr ⟨p,hp,afg hN e3 e1⟩)
     .show e' (QL e1)
    obtain rfl|⟨rfl,rfl⟩:=r
    .obtain rfl|rfl|rfl:=hk';.show cj (.inl rfl) no
     .show cj (.inr rfl) no
     .show⟨e,.inr hk0⟩
    .show⟨e,.inl hk0⟩
   obtain e3|e3|e3:=e3;.show key _ e3 (.inl rfl)
   .show key _ e3 (.inr (.inl rfl))
   .show key _ e3 (.inr (.inr rfl))
  show au I.loc λm hn hl=>?_;let⟨w,r,q⟩:=hl i y av e1 e2 ((ok.free _ (mq hfr.1) rfl).elim (λk=>.inr (.inl k)) (λk=>.inr (.inr k)));show ap w r (.inr ⟨hfr.2,(QY λzz=>au (look hfr.1) λc Z h2=>?_)⟩);obtain⟨k,_⟩|⟨_,c',e',z⟩:=q;.let k:X.env.scope.names.lookup y=aa .local:=k;apply zz.f;obtain k'|k':=ok.free _ (mq hfr.1) rfl<;>rw[k']at k<;>cases k
  .rw[h2]at e';cases e';apply zz.f;show ap c Z (z.keeps kp)
 .obtain⟨Z,_⟩|⟨_,z⟩:=mem e;.let⟨w,z⟩:=I.cell y c Z;show⟨w,z.keeps kp⟩
  .show⟨_,z⟩
 .erw[hL,I.bu.fresh (b8 _)]
 .obtain⟨Z,_⟩|⟨Z,_⟩:=mem e;.show I.ni y c Z
  .show I.bu.fresh (ZL Z)
def az9{D}{xs}{y}{v}{Q}(I:Inv X pins B H s)(W:H D=aa (.lst xs))(hz:xs.length<aw)(r:RelV y v)
 (h:∀s',Inv X pins B (upd H D (.lst (xs++[y]))) s'->Q .none s'):ax (az X.prog X.w) X.A (call (.builtin "list.append") [.ref D,v]) Q E s:=by show vd (I.bu D _ W) λhz' U n ri e=>?_;let hl:=ri.length;show append_at (hsz:=yA) e λh' sb j=>h {s with heap:=h'} (I.write (by rw[W];trivial) (.inl rfl) (λb u hb q=>(sb.2 b hb).trans q) ⟨_,j⟩ (rh (by erw[e9,hz]) (U++[v]) (n+1) (ri.append (.cons r .nil)) ?_));walk
def HQ(X:Cx)(ifs:ab Expr)(t:TT):Prop:=
 ∀pins s B H Q,Inv X pins B H s->t B H Q->
  ax (az X.prog X.w) X.A (forIn ifs ae λc r=>if r=ae then do let ok<-uk c X.env (eval c X.env);pure (ZN ok)else pure (ZN r)) (TP X pins B Q) X.xe s
def AAH:TT:=λj H Q=>Q ae H
def amj:HQ X [] AAH:=λj j j H j I h=>wpAny_tests_nil ⟨H,I,h⟩
def amk(h:PT X c t):HQ X [c] t:=λpins s B H Q I j=>wpAny_tests_one (h pins s B H Q I j)
end
def aay{Q q}(h:ax M A t Q (λj j=>il) s)(W:∀a s,Q a s->q a s):ax M A t q E s:=mm h W λj j z=>ya z
def a0a{R}{s}{elt j iter}{ifs}{scope}{pos}{it acc}{env}(I:ai->cu->Prop)
 (turn:∀n s,I n s->ax (az prog w) A (qg it) (λr W=>match r with
   |none=>R (.ok .next) W
   |some v=>ax (az prog w) A (auz j it v) (λq s₁'=>ax (az prog w) A (assign j env v) (λq s₂=>
    ax (az prog w) A (forIn ifs ae λc r=>if r=ae then do let ok<-uk c env (eval c env);pure (ZN ok)else pure (ZN r)) (λok s₃=>
     if ok=ae then ax (az prog w) A (eval elt env) (λx s₄=>
      ax (az prog w) A (call (.builtin "list.append") [acc,x]) (λq s₅=>∃m,m<n/\I m s₅) (QP (az prog w) A env λe s'=>R (.error e) s') s₄) (QP (az prog w) A env λe s'=>R (.error e) s') s₃
     else∃m,m<n/\I m s₃) (QP (az prog w) A env λe s'=>R (.error e) s') s₂) (QP (az prog w) A env λe s'=>R (.error e) s') s₁') (QP (az prog w) A env λe s'=>R (.error e) s') W) (QP (az prog w) A env λe s'=>R (.error e) s') s)
 (n)(h:I n s):
 v7 (az prog w) A (.compLoop (.ListComp elt [⟨j,iter,ifs,0⟩] scope pos) 0 it acc env) R s:=by
 show codeAny_loop rfl I (λn s hI=>wpAny_noted ?_) n h;erw[compTurn_list,aq (bg6 (aq (mm (turn n s hI) (λr W h₁=>?_) λq q h'=>h')))];cases r with
 |none=>show b4 h₁
 |some v=>
  show aq (mm h₁ (λq s₁' h₁'=>aq (mm h₁' (λq s₂ h₂=>aq (mm h₂ (λok s₃ h₃=>?_) λq q h'=>h')) λq q h'=>h')) λq q h'=>h');cases ok with
  |false=>show b4 ⟨rfl,h₃⟩
  |true=>show aq (aq (mm h₃ (λx s₄ h₄=>aq (mm h₄ (λq s₅ h₅=>b4 (b4 ⟨rfl,h₅⟩)) λq q h'=>h')) λq q h'=>h'))
section
variable{X:Cx}
def IL(wi:TI)(g:TG)(tt:TT)(te:TE)(vs:ab ai):TE:=λB H Q=>wi B H λJ Y=>∀D,Y D=af->∃W:ai->ai->Hp->Prop,(∃m,W 0 m (upd Y D (.lst [])))/\∀i m H,W i m H->
 (J.stop i H/\Q (.ref D) H)\/(J.go i H/\∃q:Hp->Prop,(∀H',q H'->∃m',m'<m/\W (i+1) m' H')/\∀x H',J.k7 i H x H'->g x (wipe B vs) H' λj H2=>wipe j vs=wipe B vs/\tt j H2 λb H3=>
  if b=ae then te j H3 λy H4=>∃acc,H4 D=aa (.lst acc)/\acc.length<aw/\q (upd H4 D (.lst (acc++[y])))else q H3)
def aml
 (hc:X.calm=ae)(hN:X.N.Nodup)(I:Inv X pins B H s)(hi:PI X tg iter wi)(ok:N3 X.N X.env.scope scope own)
 (hg:∀(s)(H)(C)(cl)(fp),PG (X.fm s H scope (ja scope cl C X.env) fp) tg g)(ht:∀(s)(H)(C)(cl)(fp),HQ (X.fm s H scope (ja scope cl C X.env) fp) ifs tt)
 (he:∀(s)(H)(C)(cl)(fp),PE (X.fm s H scope (ja scope cl C X.env) fp) elt te)(hs:∀x,foldedSetIterable iter X.env x=pure x)
 (h:IL wi g tt te (own.map (·.2)) B H Q)
 (hRR:∀D C s' m H',Inv X pins B H' s'->Q (.ref D) H'->s'.heap.Ns C m->FA X pins H' C->compPost (az X.prog X.w) X.A X.xe use Qf (.ref D) C (.ok .next) s'):
 ax (az X.prog X.w) X.A (comprehension (.ListComp elt [⟨tg,iter,ifs,0⟩] scope pos) scope X.env pos' (newList []) ag (eval iter X.env) use) Qf X.xe s:=by
 let hfree:∀y∈scope.names,y.2=.free->∃c,X.env.cells.lookup y.1=aa c:=λy hy e=>by show(ok.free y hy e).elim (λk=>I.ok.has _ (.inl k)) λk=>I.ok.has _ (.inr k)
 show wpAny_comprehension_free (use:=use) rfl hs (az6 hfree) ok.kind (λy hy e=>by rw[ok.WK y hy,e])
  (bg (hi pins s B H _ I h) λxv s1 hx=>bg hx λitv s2 h2=>QY λzi=>?_);let⟨it,fp,tn,J,H2,e,I2,T,st2,f2,q⟩:=h2;subst e;apply zi.f;show MX (az7 ?_) (by change 0<=aw;decide);generalize hD:s2.heap.objs.size=D;let hDn:H2 D=none:=I2.bu.fresh (JQ hD);show QY λzh=>au (q D hDn) λW zq472_1 turn=>xE zq472_1 λm0 w0=>?_;apply zh.f;generalize hs3:({s2 with heap:=s2.heap.push {cls:=.type "list",data:=.seq ([]:ab a6).toArray}}:cu)=s3;let I3:Inv X pins B (upd H2 D (.lst [])) s3:=by erw[<-hs3,I2.laid (t':=s2.toks) (λb o e=>dg _ e) (JQ hD) (rh (gv _) [] 0 (.nil) ?_)];erw[<-hD,f7 _ rfl]
 let h3:s3.heap=s2.heap.push {cls:=.type "list",data:=.seq ([]:ab a6).toArray}:=by rw[<-hs3]
 let sz:∀b∈fp,b<s2.heap.objs.size:=λb hb=>by let⟨o,e,_⟩:=T.obj _ _ st2 b hb;show ec e
 let f3:∀b∈fp,FA X pins (upd H2 D (.lst [])) b/\b<s3.heap.objs.size:=λb hb=>by let hlt:=sz b hb;show⟨⟨?_,(f2 b hb).2⟩,by erw[h3,jz,JV hlt]⟩;erw[a9 (by erw[<-hD,g9 hlt]),(f2 b hb).1]
 let st3:tn 0 s3.heap:=T.keep _ _ _ st2 λb ζ o e=>by erw[h3,dg _ e]
 let I4:=az8 I3 ok hN f3;let pg:=hg s3 (upd H2 D (.lst [])) s3.heap.objs.size (kf (s3.heap.objs.size+1) scope.names (DW X.env.cells scope.names [])) fp;let pt:=ht s3 (upd H2 D (.lst [])) s3.heap.objs.size (kf (s3.heap.objs.size+1) scope.names (DW X.env.cells scope.names [])) fp;let pe:=he s3 (upd H2 D (.lst [])) s3.heap.objs.size (kf (s3.heap.objs.size+1) scope.names (DW X.env.cells scope.names [])) fp;change v7 _ _ (.compStart _ 0 (.ref it) (.ref D) (ja scope (kf (s3.heap.objs.size+1) scope.names _) s3.heap.objs.size X.env)) _ {s3 with heap:=M0 _ scope.names};let nfp:=λb hb=>(f3 b hb).1.1;generalize hce:ja scope _ s3.heap.objs.size X.env=ce at I4 pg pt pe⊢;let cL:ce.locals=s3.heap.objs.size:=by subst hce;rfl
 generalize hH3:upd H2 D (.lst [])=H3 at I3 I4 pg pt pe w0 nfp f3;generalize hs4:({s3 with heap:=M0 _ scope.names}:cu)=s4 at I4⊢;let st4:tn 0 s4.heap:=T.keep _ _ _ st3 λb ζ o e=>by erw[<-hs4,ZK _ _ _ _ (dg _ e)]
 let stat:∀{σ':St}{H':Hp}{s':cu},Inv (X.fm s3 H3 scope ce fp) [] σ' H' s'->(∀b∈fp,H' b=af)->∀b∈fp,FA (X.fm s3 H3 scope ce fp) [] H' b:=fun{σ' H' s'}I' hn b hb=>
  ⟨hn b hb,(I'.ok.RC b hb).1,I'.ok.NV b hb,.inl hb,λx c e=>(I'.ok.RC b hb).2 x c e,λp hp=>cj (hp) yS⟩;let loop:v7 (az X.prog X.w) X.A (.compLoop (.ListComp elt [⟨tg,iter,ifs,0⟩] scope pos) 0 (.ref it) (.ref D) ce) (compPost (az X.prog X.w) X.A X.xe use Qf (.ref D) s3.heap.objs.size) s4:=by
  show a0a (λn s'=>∃i H',Inv (X.fm s3 H3 scope ce fp) [] (wipe B (own.map (·.2))) H' s'/\tn i s'.heap/\(∀b∈fp,H' b=af)/\W i n H') (λn s5 y0=>QY λza=>fg y0 λi H5 I5 st5 n5 w5=>?_) m0 (ic 0 H3 I4 st4 nfp w0);obtain⟨stop,qq⟩|⟨go,Nx,hNx,step⟩:=turn i n H5 w5
  .let td:=T.done (X.fm s3 H3 scope ce fp) rfl rfl rfl hc i [] s5 _ H5 (λζ ζ=>il) I5 (stat I5 n5) st5 stop;apply za.f;show aay td λr s6 zz=>QY λz9=>?_;let⟨hr,I6⟩:=zz;subst hr;let I7:Inv X pins B H5 s6:=I3.ax5 (ch:=fp) I6.os I6.base I6.bu I6.bare λb hb=>⟨(f3 b hb).1.2.2.2.1,(f3 b hb).1.2.1,(f3 b hb).1.2.2.2.2.1,(f3 b hb).1.2.2.2.2.2⟩;let nC:H5 s3.heap.objs.size=none:=by let z:H5 ce.locals=none:=I6.free;rw[cL]at z;show z
   show au I6.loc λm hn _=>?_;rw[cL]at hn;apply z9.f;show hRR D s3.heap.objs.size s6 m H5 I7 qq hn (I3.t7 (b8 _) nC)
  .let ti:=T.item (X.fm s3 H3 scope ce fp) rfl rfl rfl hc i [] s5 _ H5 (λζ ζ=>il) I5 (stat I5 n5) st5 go;apply za.f;show aay ti λr s6 z1=>QY λz8=>?_;let⟨u,hr,h6⟩:=z1;subst hr;apply z8.f;show aay h6 λζ s7 z2=>QY λz7=>lg z2 λx H7 I7 r7 y7 st7 n7=>?_;let I7':=I7.pinned (stat I7 n7) (T.obj _ _ st7);apply z7.f;show aay (pg _ s7 _ H7 x u _ I7' r7 (step x H7 y7)) λζ s8 z3=>QY λz6=>b7 z3 λσ8 H8 I8 hw8 q8=>?_;apply z6.f;show aay (pt _ s8 σ8 H8 _ I8 q8) λb s9 z4=>?_;let⟨H9,I9,q9⟩:=z4;let fin:∀{s':cu}{H':Hp},Inv (X.fm s3 H3 scope ce fp) ([]++RH fp s7.heap) σ8 H' s'->Nx H'->∃m,m<n/\∃i H',Inv (X.fm s3 H3 scope ce fp) [] (wipe B (own.map (·.2))) H' s'/\tn i s'.heap/\(∀b∈fp,H' b=af)/\W i m H':=fun{s' H'}I' nx=>by
    show au (hNx H' nx) λm' hm w'=>?_;let pin':∀b∈fp,∀o,s7.heap.get? b=aa o->s'.heap.get? b=aa o/\H' b=none:=λb hb o e=>
     let z:=I'.pin (b,o) (mn _ (mn _ (afm hb e)))
     ⟨z.1,z.2.1⟩;show⟨m',hm,i+1,H',(I'.afn (pins:=[])).weak (by rw[<-hw8,adk]) (λj v e=>?_),T.keep _ _ _ st7 λb hb o e=>(pin' b hb o e).1,λb hb=>?_,w'⟩;.rw[<-hw8]at e;show(af5 e).1
    .let⟨o,e,_⟩:=T.obj _ _ st7 b hb;show(pin' b hb o e).2
   cases b with
   |false=>rwa[U3,yg]at q9⊢;show fin I9 q9
   |true=>rwa[jk]at q9⊢;show aay (pe _ s9 σ8 H9 _ I9 q9) λz s10 z5=>QY λz0=>?_;let⟨yv,H10,I10,r10,acc,hD10,hz10,nx⟩:=z5;apply z0.f;show az9 (X:=X.fm s3 H3 scope ce fp) I10 hD10 hz10 r10 λs11 I11=>fin I11 nx
 show codeAny_compStart_list loop (T.self X.A 0 _ _ _ st4 loop)
def a0b(hc:X.calm=ae)(hN:X.N.Nodup)(hi:PI X tg iter wi)(ok:N3 X.N X.env.scope j own)
 (hg:∀(s)(H)(C)(cl)(fp),PG (X.fm s H j (ja j cl C X.env) fp) tg g)(ht:∀(s)(H)(C)(cl)(fp),HQ (X.fm s H j (ja j cl C X.env) fp) ifs tt)
 (he:∀(s)(H)(C)(cl)(fp),PE (X.fm s H j (ja j cl C X.env) fp) elt te)(hs:∀x,foldedSetIterable iter X.env x=pure x):
 PE X (.ListComp elt [⟨tg,iter,ifs,0⟩] j pos) (IL wi g tt te (own.map (·.2))):=by show λpins s B H Q I h=>aml hc hN I hi ok hg ht he hs h λD C s' m H' I' q hn f=>(ap m hn (λh'' sb=>jc f λf0 f1 f2 f3 W=>xA W λf4 f5=>⟨.ref D,H',I'.turned (λb o hb e=>(sb.2 b hb).trans e) f0 f1 f3 f4 f5,rfl,q⟩))
def a0c(hc:X.calm=ae)(hN:X.N.Nodup)(hy:X.N[i]?=aa y)(hyl:X.env.scope.names.lookup y=aa .local)
 (hsw:uo (.ListComp elt [⟨tg,iter,ifs,0⟩] j pos) (aa (.Name y py)) spos.line X.env=pure ae)(hi:PI X tg iter wi)(ok:N3 X.N X.env.scope j own)
 (hg:∀(s)(H)(C)(cl)(fp),PG (X.fm s H j (ja j cl C X.env) fp) tg g)(ht:∀(s)(H)(C)(cl)(fp),HQ (X.fm s H j (ja j cl C X.env) fp) ifs tt)
 (he:∀(s)(H)(C)(cl)(fp),PE (X.fm s H j (ja j cl C X.env) fp) elt te)(hs:∀x,foldedSetIterable iter X.env x=pure x):
 PS X (.Assign [.Name y py] (.ListComp elt [⟨tg,iter,ifs,0⟩] j pos) spos) (AAC (IL wi g tt te (own.map (·.2))) (NX i)):=by
 intro pins s B H D I h;erw[exec_Assign_Name_used _ _ _ _ hsw,aq (bg6 (aq (aq (bg (aml hc hN I hi ok hg ht he hs h λL C s' m H' I' q hn f=>bge (akn (v:=V.ref L) I' hN hy (.inl hyl) rfl (λs2 I2 zz=>QY λw=>au zz λa sb ha=>jc f λf0 f1 f2 f3 W=>xA W λf4 f5=>?_) (.inr hyl))) λζ s' hq=>b4 (b4 hq)))))];let haC:C≠a:=by
  obtain z|z:=ha;.walk
  .show λe=>f4 y a z e.symm
 apply w.f;show ap m (hn.sameBut sb haC) λh3 sb3=>(gk _ H' (I2.turned (λb o hb e=>(sb3.2 b hb).trans e) f0 f1 f3 f4 f5) q)
def a0d(hk:env.scope.kind=.function)(q:env.scope.names.lookup y=aa .local)(hl:(W.line==pos.line)=ae)
 (ha:(j.names.any fun(n,k)=>n==y&&(k==.local||k==.cell))=ag):uo (.ListComp elt gs j pos) (aa (.Name y W)) l env=pure true:=by
 let ky:env.kindOf y=aa .local:=q;let hb:env.blockKind=.function:=by simp_all[Env.blockKind]
 delta uo;rwa[hb,ky,ha,show(Expr.pos (.ListComp elt gs j pos))=pos from rfl,hl];rfl
end
section
variable{κ:Type}[QB κ]
def FC(kvs:ab (κ×V))(k:κ):ah V:=(kvs.find? λj=>decide (j.1=k)).map (·.2)
noncomputable def putK(kvs:ab (κ×V))(k:κ)(v:V):ab (κ×V):=
 if(kvs.any λj=>decide (j.1=k))=ae then kvs.map (λj=>if j.1=k then(j.1,v)else j)else kvs++[(k,v)]
def a0e{k:κ}(e:p.1=k):FC (p::r) k=aa p.2:=by simp[FC,e]
def a0f{k:κ}(e:¬p.1=k):FC (p::r) k=FC r k:=by simp[FC,e]
def amm(kvs)(k:κ)(v):(putK kvs k v).length<=kvs.length+1:=by grind[putK]
def EL.amn(r:EL o u):o.isSome=u.isSome:=by
 cases o with
 |none=>cases u with
  |none=>rfl
  |some _=>show(r).elim
 |some _=>cases u with
  |none=>show(r).elim
  |some _=>rfl
def EL.getD(r:EL o u)(j:RelV d q):RelV (o.getD d) (u.getD q):=by
 cases o with
 |none=>cases u with
  |none=>show j
  |some _=>show(r).elim
 |some _=>cases u with
  |none=>show(r).elim
  |some _=>show r
def KV.val(r:KV kvs vs)(k:κ):EL (FC kvs k) (ZO vs k):=by
 induction r with
 |nil=>show lp
 |@cons p q ps qs h t ih=>
  by_cases e:p.1=k
  .let b:ZO (q::qs) k=aa q.2:=by simp_all[ZO]
   erw[a0e e,b,h.2]
  grind[ZO,a0f]
def KV.any(r:KV kvs vs)(k:κ):(kvs.any λj=>decide (j.1=k))=vs.any λj=>decide (j.1=k):=by induction r<;>walk
def KV.a0g(r:KV kvs vs)(k:κ)(ry:RelV y u):
 KV (kvs.map λj=>if j.1=k then(j.1,y)else j) (vs.map λj=>if j.1=k then(j.1,u)else j):=by
 induction r with
 |nil=>show .nil
 |@cons p q ps qs h t W=>rwa[b9,b9];show .cons ?_ W;lia
def KV.put(r:KV kvs vs)(k:κ)(ry:RelV y u):KV (putK kvs k y) (stored vs k u):=by
 unfold putK stored;rw[r.any k];by_cases e:(vs.any λkv=>decide (kv.1=k))=ae;.erw[aj e,aj e,r.a0g k ry]
 .erw[ao e,ao e,avu r ⟨rfl,ry⟩]
def KV.length(r:KV kvs vs):kvs.length=vs.length:=UJ r
end
def aaz(r:RelV (kV k) u):(B8 P w).is k u=true:=by
 cases k with
 |inl i=>let⟨t,e⟩:=(r);simp_all[axy]
 |inr x=>let⟨t,e⟩:=(r);simp_all[axz]
section
variable{P:de}{w:c9}{H:Hp}{h:Heap}{a:Addr}
def a0h(ok:CH P w H h)(e:Rd H a u):CB P w H h a u:=e.ok ok
def vj(ok:CH P w H h)(e:Rd H a (.dK kvs)):kvs.length<=aw/\(a==sf)=ag/\∃vs,KV kvs vs/\h.DictOf (B8 P w) a vs:=
 a0h ok e
def amo(ok:CH P w H h)(e:H a=aa (.dK kvs)):kvs.length<=aw/\(a==sf)=ag/\∃vs,KV kvs vs/\h.DictOf (B8 P w) a vs:=vj ok (.inl e)
end
def FD(H:Hp)(a:Addr)(y:V)(r:ah V):Prop:=∃kvs k,Rd H a (.dK kvs)/\y=kV k/\r=FC kvs k
def KN(H:Hp)(a:Addr)(y v:V)(H':Hp):Prop:=∃kvs k,H a=aa (.dK kvs)/\y=kV k/\kvs.length<aw/\H'=upd H a (.dK (putK kvs k v))
def FD.k{kvs}{k}(e:H a=aa (.dK kvs)):FD H a (kV k) (FC kvs k):=dq kvs k (.inl e) rfl rfl
def KN.k{kvs}{k}{v}(e:H a=aa (.dK kvs))(hl:kvs.length<aw):KN H a (kV k) v (upd H a (.dK (putK kvs k v))):=ic kvs k e rfl hl rfl
section
variable{X:Cx}{pins:ab (Addr×Obj)}{B:St}{H:Hp}{s:cu}{a:Addr}{y v:V}{u r:a6}{o:ah V}{A:jg}{E:a6->cu->Prop}
section
variable(I:Inv X pins B H s)
include I
def Inv.big:sf<s.heap.objs.size:=JW yD ((I.mod.glob.keeps I.bk).lt)
def a0i(g:FD H a y (aa v))(ry:RelV y u)(h:∀j s',Inv X pins B H s'->RelV v j->Q j s'):
 ax (az X.prog X.w) A (yb (.ref a) u) Q E s:=by let⟨kvs,k,e,rfl,l⟩:=g;show j5 (vj I.bu e) λz hd vs q dd=>?_;let⟨j,hw,W⟩:=EL.some_of (v:=v) (by erw[l,q.val k]);show wpAny_getItem_of (aaz ry) dd.mapOf hw (h j _ (I.tok _) W)
def a0j(g:FD H a y o)(q:RelV y u)(h:∀s',Inv X pins B H s'->Q (.bool o.isSome) s'):
 ax (az X.prog X.w) A (ia .In u (.ref a)) Q E s:=by let⟨kvs,k,e,rfl,l⟩:=g;show j5 (vj I.bu e) λz hd vs j W=>wpAny_in_of (aaz q) hd W.mapOf ?_;erw[<-(j.val k).amn,<-l,h _ (I.tok _)]
def a0k(g:FD H a y o)(q:RelV y u)(h:∀s',Inv X pins B H s'->Q (.bool (!o.isSome)) s'):
 ax (az X.prog X.w) A (ia .NotIn u (.ref a)) Q E s:=by let⟨kvs,k,e,rfl,l⟩:=g;show j5 (vj I.bu e) λz hd vs j W=>wpAny_notIn_of (aaz q) hd W.mapOf ?_;erw[<-(j.val k).amn,<-l,h _ (I.tok _)]
def adl(mu:IJ (H a))(hs:JM a s.heap h')(he:∃q,h'.get? a=aa q)(j:CB X.prog X.w (upd H a W) h' a W):
 Inv X pins B (upd H a W) {s with heap:=h',toks:=t'}:=
 I.write mu (.inl rfl) (λb q hb z=>(hs.2 b hb).trans z) he j
end
def af6(z:kvs.length<=aw)(hd:(a==sf)=ag)(j:KV kvs vs)(q:h'.DictOf (B8 P w) a vs):
 CB P w H' h' a (.dK kvs):=⟨z,hd,vs,j,q⟩
def a0l{Q}(I:Inv X pins B H s)(g:KN H a y v H')(ry:RelV y u)(rv:RelV v r)(h:∀s',Inv X pins B H' s'->Q () s'):
 ax (az X.prog X.w) A (Y5 (.ref a) u r) Q E s:=by let⟨kvs,k,e,rfl,l,rfl⟩:=g;show j5 (amo I.bu e) λz hd vs j dd=>wpAny_setItem_pairs (hsz:=(by erw[<-j.length,z])) (aaz ry) dd λh' W hs=>h _ (adl I (by erw[e,lp]) hs (j8 W λq _ _ hq _=>⟨q,hq⟩) (af6 (by let:=amm kvs k v;lia) hd (j.put k rv) W))
end
section
variable{X:Cx}{pins:ab (Addr×Obj)}{B:St}{H:Hp}{s:cu}{a:Addr}{kvs:ab (Key×V)}{k:Key}{u:a6}{A:jg}{E:a6->cu->Prop}
def a0m(I:Inv X pins B H s)(e:Rd H a (.dK kvs))(h:∀t s',Inv X pins B H s'->Q (.int kvs.length t) s'):ax (az X.prog X.w) A (call (.builtin "len") [.ref a]) Q E s:=by show j5 (vj I.bu e) λz hd vs j q=>call_len_dict hd q (by rw[<-j.length];rw[JP]at z;lia) ?_;erw[<-j.length,h _ _ (I.tok _)]
end
def AAI(i:Expr):Prop:=∀j q,ZF i ag j q=avn [j,q] (yb j q)
def a0n{T id}
 (hl:typeLookup (.type T) "__getitem__"=pure (aa (.builtin id)))(hs:AAI j)
 (h:ax (az prog w) A (eval value env) (λo s₁=>ax (az prog w) A (eval j env) (λi q=>q.TypeIs o T/\ax (az prog w) A (yb o i) Q E q) E s₁) E s):
 ax (az prog w) A (eval (.Subscript value j pos) env) Q E s:=by
 show avk (mm h (λo s₁ h₁=>mm h₁ (λi q W=>?_) λζ ζ x=>x) λζ ζ x=>x);let⟨hT,W⟩:=W;show aq (aq (U4 hT hl ?_));let fin:ax (az prog w) A (ZF j ag o i) (λr s₃=>ax (az prog w) A (letTemporaryGo value o r>>=λζ=>pure r) Q E s₃) E q:=by erw[hs o i,wpAny_operating (mm W (λr s₃ h₃=>aq (wpAny_letTemporaryGo (b4 h₃))) λζ ζ x=>x)]
 first
  |show b4 (aq fin)
def a0o(I:Inv X pins B H s)(g:FD H a y o):s.TypeIs (.ref a) "dict":=by show jd g λkvs k e _=>j5 (vj I.bu e) λ_ _ vs _ j=>j.typeIs
def ADE(td ty:TE):TE:=λB H Q=>td B H λx Y=>ty B Y λy H2=>∃a v,x=.ref a/\FD H2 a y (aa v)/\Q v H2
def ADF(td ty tv:TE):TS:=λD B H=>tv B H λv Y=>td B Y λx H2=>ty B H2 λy q=>∃a j,x=.ref a/\KN q a y v j/\D.nx B j
section
variable{X:Cx}{o i e value:Expr}{pos pos' tpos:Pos}{td ty tv:TE}
def a0p(ho:PE X o td)(hi:PE X i ty)(W:AAI i):PE X (.Subscript o i pos) (ADE td ty):=by show λpins s B H Q I h=>a0n PySem.F.slot_dict_getitem.lookup W (bg (ho pins s B H _ I h) λu s1 z=>?_);let⟨x,Y,I1,rx,q1⟩:=z;show bg (hi pins s1 B Y _ I1 q1) λiv s2 zz=>QY λw=>?_;let⟨y,H2,q,ry,a,v,ex,g,q2⟩:=zz;subst ex;obtain rfl:u=ko a:=rx;apply w.f;show⟨a0o q g,a0i q g ry λw' s3 I3 j=>⟨v,H2,I3,j,q2⟩⟩
def amq(ho:PE X o td)(hi:PE X i ty)(j:PE X value tv)(q:uo value (aa (.Subscript o i pos')) pos.line X.env=pure ag):
 PS X (.Assign [.Subscript o i pos'] value pos) (ADF td ty tv):=by show λpins s B H D I h=>bg7 (bg (j pins s B H _ I h) λr W z=>?_) q;let⟨v,Y,I1,rv,q1⟩:=z;show bg (ho pins W B Y _ I1 q1) λu s2 zz=>?_;let⟨x,H2,I2,rx,q2⟩:=zz;show bg (hi pins s2 B H2 _ I2 q2) λiv s3 z1=>QY λw=>?_;let⟨y,H3,I3,ry,a,H4,ex,g,q3⟩:=z1;subst ex;obtain rfl:u=ko a:=rx;apply w.f;show a0l I3 g ry rv λs4 I4=>(gk B H4 I4 q3)
end
def amr(h:Heap)(j:sf<h.objs.size):CB P w H (h.push {cls:=.type "dict",data:=.dict #[]}) h.objs.size (.dK []):=
 ⟨gv _,i8.mpr (ji (g9 j)),[],.nil,blw h⟩
def ADG:TE:=λj H Q=>∀p,H p=af->Q (.ref p) (upd H p (.dK []))
section
variable{X:Cx}{pos:Pos}
def ams:PE X (.Dict [] [] pos) ADG:=λpins s B H Q I h=>
 bg8 ⟨.ref s.heap.objs.size,_,I.laid (λj j q=>dg _ q) (b8 _) (amr s.heap I.big),rfl,h _ (I.bu.fresh (b8 _))⟩
end
def WL:ab (TE×TE)->St->Hp->(ab (V×V)->Hp->Prop)->Prop
 |[],_,H,Q=>Q [] H
 |(tk,tv)::r,B,H,Q=>tk B H λx Y=>tv B Y λy H2=>WL r B H2 λps j=>Q ((x,y)::ps) j
abbrev VV:ab (V×V)->ab (a6×a6)->Prop:=Paired λp q=>RelV p.1 q.1/\RelV p.2 q.2
def RL(X:Cx)(pos:Pos)(q:ab (ah Expr))(j:ab Expr)(W:ab (TE×TE)):Prop:=
 ∀pins s B H Q,Inv X pins B H s->WL W B H Q->
  ax (az X.prog X.w) X.A (evalPairs (pairTrees q j X.env pos)) (λvs s'=>∃ps H',Inv X pins B H' s'/\VV ps vs/\Q ps H') X.xe s
def a0q:RL X pos [] [] []:=λpins s B H Q I h=>pairTrees_nil_walk (dq [] H I (.nil) h)
def a0r(hk:PE X k tk)(hv:PE X v tv)(hr:RL X pos ks vs j):
 RL X pos (aa k::ks) (v::vs) ((tk,tv)::j):=by show λpins s B H Q I h=>pairTrees_cons_walk (bg (hk pins s B H _ I h) λu s1 z=>QY λzz=>?_);let⟨x,Y,I1,rx,q1⟩:=z;apply zz.f;show bg (hv pins s1 B Y _ I1 q1) λw2 s2 z=>QY λq=>?_;let⟨y,H2,I2,ry,q2⟩:=z;apply q.f;show bg (hr pins s2 B H2 _ I2 q2) λws s3 z=>QY λw=>b7 z λps H3 I3 W q3=>?_;apply w.f;show dq ((x,y)::ps) H3 I3 (.cons ⟨rx,ry⟩ W) q3
def N4(kvs j:ab (Key×V)):ab (Key×V):=j.foldl (λacc q=>putK acc q.1 q.2) kvs
def KV.merge:∀{j}{rs}{kvs}{vs},KV j rs->KV kvs vs->KV (N4 kvs j) (merged vs rs):=by
 intro j rs kvs vs r;induction r generalizing kvs vs with
 |nil=>show λq=>q
 |@cons p q ps qs h t W=>
  intro r0;let e:KV (putK kvs p.1 p.2) (stored vs q.1 q.2):=by let:=r0.put p.1 h.2;walk
  show W e
def amt:∀(j kvs),(N4 kvs j).length<=kvs.length+j.length
 |[],kvs=>by change kvs.length<=kvs.length+0;lia
 |p::r,kvs=>by let Z:=amt r (putK kvs p.1 p.2);grind[amm,N4,d6]
def amu:∀{kvs}{j},VV (kvs.map λW=>(kV W.1,W.2)) j->∃rs,Carries (B8 P w) j rs/\KV kvs rs
 |[],_,r=>by cases r;show ap [] lp (.nil)
 |p::kvs,_,r=>by
  cases r with
  |@cons a b as bs h t=>let⟨rs,c,q⟩:=amu t;show ap ((p.1,b.2)::rs) ⟨aaz h.1,rfl,c⟩ (.cons ⟨rfl,h.2⟩ q)
def ADH(j:ab (TE×TE)):TE:=λB H Q=>∀p,H p=af->WL j B (upd H p (.dK [])) λps H2=>H2 p=aa (.dK [])/\∃kvs:ab (Key×V),ps=kvs.map (λq=>(kV q.1,q.2))/\kvs.length<=15/\Q (.ref p) (upd H2 p (.dK (N4 [] kvs)))
def a0s(h:RL X pos j W trs)(hall:j.all (·.isSome)=ae)(hl:j.length=W.length)(h0:j≠[])
 (h15:j.length<=15):PE X (.Dict j W pos) (ADH trs):=by
 show λpins s B H Q I q=>wpAny_Dict_walk (knd:=B8 X.prog X.w) hall hl h0 h15 (bg (h pins _ B _ _ (I.laid (λζ ζ q=>dg _ q) (b8 _) (amr s.heap I.big)) (q _ (I.bu.fresh (b8 s.heap.objs.size)))) λws s2 zz=>QY λz0=>fg zz λps H2 I2 rel e zq515_1=>bz zq515_1 λkvs ep lk q2=>?_);subst ep;let⟨rs,c,rk⟩:=amu rel;show j5 (amo I2.bu e) λz hd vs0 r0 dd=>?_;cases r0;apply z0.f;show et rs c dd λh' dd' hs=>⟨.ref s.heap.objs.size,_,?_,rfl,q2⟩;let hz:(N4 [] kvs).length<=sizeLine:=by grind[amt,avv,JP]
 show adl I2 (by erw[e,lp]) hs (j8 dd' λq _ _ hq _=>⟨q,hq⟩) (af6 hz hd (rk.merge .nil) dd')
structure M2(X:Cx)(o:Expr)(m:Str)(apos:Pos)(e f:Expr)(cpos:Pos):Prop where
 base:attributeBase o m X.env (eval o X.env)=eval o X.env
 ua:((kb cpos (ed [e,f] X.env)).all (λx=>!x.1)&&(UR cpos (US [] X.env)).all (λx=>x.1.isSome)
  &&decide (([e,f]:ab Expr).length+([]:ab MO).length+(if([]:ab MO).isEmpty then 0 else 1)<30))=ae
 line:(apos.endLine==cpos.line)=ae
 a0t:kb cpos (ed [e,f] X.env)=[(ag,eval e X.env),(ag,eval f X.env)]
def IsD(H:Hp)(a:Addr):Prop:=∃kvs,Rd H a (.dK kvs)
def a0u(I:Inv X pins B H s)(d:IsD H a):
 s.TypeIs (.ref a) "dict"/\(∀b,ko a=.ref b->∃j,s.heap.get? b=aa j/\j.dict=af)/\(a==sf)=false:=by let⟨kvs,e⟩:=d;let⟨_,hd,vs,_,W⟩:=vj I.bu e;show⟨W.typeIs,λb q=>?_,hd⟩;cases q;show kj W λj _ _ Z h2 _=>ap j Z h2.2.1
section
variable{X:Cx}{pins:ab (Addr×Obj)}{B:St}{H:Hp}{s:cu}{a:Addr}{y d:V}{u r:a6}{o:ah V}{A:jg}{E:a6->cu->Prop}
def a0v(I:Inv X pins B H s)(g:FD H a y o)(ry:RelV y u)(rd:RelV d r)(h:∀q s',Inv X pins B H s'->RelV (o.getD d) q->Q q s'):
 ax (az X.prog X.w) A (call (.builtin "dict.get") [.ref a,u,r]) Q E s:=by let⟨kvs,k,e,rfl,l⟩:=g;show j5 (vj I.bu e) λz hd vs j W=>call_meetsIn bg9 W.typeIs PySem.F.entry_dict_get (PySem.F.args_dict_get_3 _ _ _) (meets_dict_get_default _ a (aaz ry) hd r) (ap _ W.mapOf (h _ _ (I.tok _) ?_));erw[l,(j.val k).getD rd]
end
def ADI(td ty tx:TE):TE:=λB H Q=>td B H λx Y=>∃a,x=.ref a/\IsD Y a/\ty B Y λy H2=>tx B H2 λz j=>∃o,FD j a y o/\Q (o.getD z) j
section
variable{X:Cx}{o e f:Expr}{apos cpos:Pos}{td ty tx:TE}
def a0w(ho:PE X o td)(he:PE X e ty)(hf:PE X f tx)(m:M2 X o "get" apos e f cpos):PE X (.Call (.Attribute o "get" apos) [e,f] [] cpos) (ADI td ty tx):=by
 show λpins s B H Q I h=>bha m.base m.ua m.line avw bg9 PySem.F.type_dict_get (bg (ho pins s B H _ I h) λu W zz=>QY λw=>?_);let⟨x,Y,q,rx,a,ex,d,q1⟩:=zz;subst ex;obtain rfl:u=ko a:=rx;show d9 (a0u q d) λt1 t2 _=>?_;apply w.f;show⟨t1,t2,?_⟩;rw[m.a0t];show MY rfl (ZI (JR (bg (he pins W B Y _ q q1) λiv s2⟨y,H2,I2,ry,q2⟩=>
  JR (bg (hf pins s2 B H2 _ I2 q2) λfv s3⟨z,H3,I3,rz,ov,g,q3⟩=>QJ (a0v I3 g ry rz λw' s4 I4 j=>⟨_,H3,I4,j,q3⟩)))))
end
section
variable{X:Cx}{pins:ab (Addr×Obj)}{B:St}{H:Hp}{s:cu}{a:Addr}{kvs:ab (Key×V)}{A:jg}{E:a6->cu->Prop}
def a0x(I:Inv X pins B H s)(e:Rd H a (.dK kvs))(h:∀p s',H p=af->Inv X pins B (upd H p (.dK kvs)) s'->Q (.ref p) s'):ax (az X.prog X.w) A (call (.type "dict") [.ref a]) Q E s:=by show j5 (vj I.bu e) λz hd vs j dd=>kt_call_dict hd dd (by rw[<-j.length];omega) λh' W hs=>(h _ _ (I.bu.fresh (b8 _)) (I.laid (λb q hq=>((hs.2 b (g9 (ec hq))).trans (dg _ hq))) (b8 _) (af6 z (i8.mpr (ji (g9 I.big))) j W)))
end
section
variable{X:Cx}{pins:ab (Addr×Obj)}{B:St}{H:Hp}{s:cu}{h':Heap}
def Inv.amv{ch:ab Addr}(I:Inv X pins B H s)(k:∀b o,b∉ch->s.heap.get? b=aa o->h'.get? b=aa o)(hf:∀b∈ch,FA X pins H b):Inv X pins B H {s with heap:=h',toks:=t'}:=by
 let nit:∀b u,H b=aa u->b∉ch:=λb u e z=>by rw[((hf b z).1)]at e;trivial
 show I.step (λb W=>⟨(hf b W).2.2.2.1,(hf b W).2.1,(hf b W).2.2.2.2.1,(hf b W).2.2.2.2.2⟩) (λb o j j hc e j=>k b o hc e) (λb o j j hc e j=>⟨o.slots,k b o hc e⟩)
  (λj j j j n=>n) (λb o hc e=>⟨o,k b o hc e⟩) (λj j j e=>e) (λm hm=>j8 hm λo es ep ho r=>aat o es ep (k _ o (λz=>(hf _ z).2.1 rfl) ho) r) (λb u e=>?_) I.bare;.show(I.bu b u e).t5 (λc v hc q=>k c v ?_ q) λj q=>q;grind
def Inv.adm{ch:ab Addr}(I:Inv X pins B H s)(k:∀b o,b∉ch->s.heap.get? b=aa o->h'.get? b=aa o)(hf:∀b∈ch,FA X pins H b)(hT:s.heap.objs.size<=T)
 (new:CB X.prog X.w (upd H T ob) h' T ob):Inv X pins B (upd H T ob) {s with heap:=h',toks:=t'}:=by
 let hn:=I.bu.fresh hT;let nit:∀b u,H b=aa u->b∉ch:=λb u e z=>by rw[((hf b z).1)]at e;trivial
 show I.step (λb j=>⟨(hf b j).2.2.2.1,(hf b j).2.1,(hf b j).2.2.2.2.1,(hf b j).2.2.2.2.2⟩) (λb o W W hc e W=>k b o hc e) (λb o W W hc e W=>⟨o.slots,k b o hc e⟩)
  (λb o W e n=>?_) (λb o hc e=>⟨o,k b o hc e⟩) (λb o u e=>?_) (λm hm=>j8 hm λo es ep ho r=>aat o es ep (k _ o (λz=>(hf _ z).2.1 rfl) ho) r) (λb u e=>?_) I.bare;.erw[a9 (g9 (jf (ec e) hT)),n]
 .erw[a9 (fw e hn),e]
 .by_cases j:b=T;.grind[cy]
  .rw[a9 j]at e;show(I.bu b u e).t5 (λc v hc q=>k c v ?_ q) λc q=>by rw[a9 (fw q hn)];omega
   grind
section
variable(I:Inv X pins B H s)(h:H d=aa u)(mu:IJ (aa u))
include I h mu
def Inv.lock:∃W,Inv X pins B (upd H d (.AN W u)) s:=by
 let x:=I.bu d u h;let ex:∃W,s.heap.get? d=aa W:=by
  clear h;cases u with
  |lst xs=>show vd x λ_ _ _ _ e=>⟨_,e⟩
  |dK kvs=>show j5 x λ_ _ _ _ j=>j8 j λo _ _ e _=>⟨o,e⟩
  |ins C dx fs=>show jc x λ_ _ _ e _=>⟨_,e⟩
  |ext φ=>let⟨_,⟨_,e⟩,_⟩:=x;show⟨_,e⟩
  |_=>show ya mu
 let⟨W,e⟩:=ex;let new:CB X.prog X.w (upd H d (.AN W u)) s.heap d (.AN W u):=by show⟨e,x.t5 (λb v ζ q=>q) λb q=>?_⟩;rw[a9 (λz=>by rw[z,h]at q;injection q with q;subst q;show mu)];omega
 show⟨W,I.write yA (.inl rfl) (λb v ζ q=>q) ⟨W,e⟩ new⟩
def Inv.amw:∀o' u',X.zd d≠aa (.AN o' u'):=λo' u' e=>by let q:=I.base.rm d o' u' e;rw[h]at q;injection q with q;subst q;show mu
end
def Inv.unlock(I:Inv X pins B H s)(h:H d=aa (.AN od u))(hn:∀o' u',X.zd d≠aa (.AN o' u')):Inv X pins B (upd H d u) s:=by
 let neH:∀b o,H b=aa o->(∀o' u',o≠.AN o' u')->b≠d:=λb o e hne z=>by rw[z,h]at e;injection e with e;subst e;show hne _ _ rfl
 let neN:∀b,H b=af->b≠d:=λb e z=>by rw[z,h]at e;trivial
 show⟨I.ok,I.os,I.bare,⟨I.base.keep,I.base.slot,λb o e n hx=>?_,I.base.there,λb o x e=>?_⟩,I.loc,I.cell,?_,λx c e=>?_,λp hp=>d9 (I.pin p hp) λe n r=>⟨e,by erw[a9 (neN _ n),n],r⟩,λb o e=>?_,I.len⟩;.erw[a9 (neN b (I.base.free b o e n hx)),I.base.free b o e n hx]
 .erw[a9 (λz=>by rw[z]at e;show hn _ _ e),(I.base.rm b o x e)]
 .erw[a9 (neN _ I.free),I.free]
 .erw[a9 (neN c (I.ni x c e)),I.ni x c e]
 .by_cases hb:b=d;.rw[hb,cy]at e;injection e with e;subst e;erw[hb,(I.bu d _ h).2.t5 (λc v ζ q=>q) λc q=>by erw[a9 (neH c _ q (λζ ζ z=>nomatch z)),q]]
  .rw[a9 hb]at e;show(I.bu b o e).t5 (λc v ζ q=>q) λc q=>by erw[a9 (neH c _ q (λζ ζ z=>nomatch z)),q]
end
def ADJ(t:TS):TS:=λD B H=>∃d u,H d=aa u/\IJ (aa u)/\∀j,t ⟨λq H'=>H' d=aa (.AN j u)/\D.nx q (upd H' d u),λv H'=>H' d=aa (.AN j u)/\D.rt v (upd H' d u)⟩ B (upd H d (.AN j u))
section
variable{X:Cx}
def a0y{st}(h:PS X st t):PS X st (ADJ t):=by
 show λpins s B H D I W=>b7 W λd u hd mu W=>?_;let⟨od,I1⟩:=I.lock hd mu;show bg (h pins s B _ _ I1 (W od)) λf s1 q=>?_;cases f with
 |next=>let⟨j,H',I2,e,q⟩:=q;show gk j _ (I2.unlock e (I.amw hd mu)) q
 |ret v=>show fh q λx j H' I2 r e q=>zb x j _ (I2.unlock e (I.amw hd mu)) r q
 |_=>show q.elim
def af7{pins}{B:St}{H}{s}{R}{J}{j}{tk}(I:Inv X pins B H s)(o)
 (T:Turn X.prog X.w X.K tg J [s.heap.objs.size] s.heap.objs.size j)(st:j 0 (s.heap.push o))(q:R J H):zj X pins B tg R (.ref s.heap.objs.size) {s with heap:=s.heap.push o,toks:=tk}:=by
 show⟨s.heap.objs.size,[s.heap.objs.size],j,J,H,rfl,I.kept λb ob e=>dg _ e,T,st,λb W=>?_,q⟩;let e:=by simpa using W
 subst e;show I.t7 (b8 _) (I.bu.fresh (b8 _))
end
def WM(x:Str):It:=⟨λi j=>i<x.cps.size,λi H v H'=>H'=H/\∃c,x.cps[i]?=aa c/\v=.str ⟨#[c]⟩,λi j=>x.cps.size<=i⟩
def amx{K}(j)(x)(t)(ty)(hty:ty="str_ascii_iterator"\/ty="str_iterator"):
 Turn P w K tg (WM x) [j] j (λi h=>h.IsStrIter j ty x t i)where
 mem:=yS
 obj:=λi h st b hb=>by
  let e:b=j:=by simpa using hb
  subst e;show bz st λo e c d=>ap o e λv z=>by rw[d]at z;cases z
 keep:=λi h h' st k=>au st λo ho r=>(ap o (k j yS o ho) r)
 item:=by
  intro X hP hw hK hc i pins s B H E I hf st hg;subst hP hw hK;show jc (hf j yS) λf0 f1 f2 f3 zq557_1=>xA zq557_1 λf4 f5=>?_;let W:Walks X.prog X.w X.A j [j] [j] x.cps.size (SignAt x) (λi h=>h.IsStrIter j ty x t i):=by
   obtain e|e:=hty;.erw[e,Walks.strAscii (I.ok.hd hc) j x t]
   .erw[e,Walks.strWide (I.ok.hd hc) j x t]
  let hno:["enumerate","zip","dict_itemiterator","dict_reverseitemiterator","odict_iterator","itertools.zip_longest","itertools.pairwise"].contains ty=false:=by
   obtain e|e:=hty;.rw[e];decide
   .rw[e];decide
  show W.item i s _ _ hg st λv h' tk hv st' kk=>QY λq=>?_;let⟨c,u,hcx,rfl⟩:=hv;let I1:Inv X pins B H {s with heap:=h',toks:=tk}:=I.turned (λb o hb e=>kk b o (by simpa using hb) e) f0 f1 f3 f4 f5;show bz (id st') λoi e cc dd=>?_;apply q.f;show ap _ rfl (abp (s:={s with heap:=h',toks:=tk}) e cc dd hno (jx (.str ⟨#[c]⟩) H I1 ⟨u,rfl⟩ (aar rfl c hcx rfl) st' (λb hb=>(hf b hb).1)))
 done:=by
  intro X hP hw hK hc i pins s B H E I hf st hg;let⟨f0,f1,f2,f3,f4,f5⟩:=hf j yS;let hx:=bhb hg;obtain e|e:=hty;.rw[e]at st;show wpAny_pyNext_ascii_end (I.ok.hd hc) st hx λh' eb=>⟨rfl,I.turned (t':=s.toks) (λb o hb e=>eb b o hb e) f0 f1 f3 f4 f5⟩
  .rw[e]at st;show wpAny_pyNext_wide_end (I.ok.hd hc) st hx λh' eb=>⟨rfl,I.turned (t':=s.toks) (λb o hb e=>eb b o hb e) f0 f1 f3 f4 f5⟩
 self:=λA i s Q E st h=>by
  obtain e|e:=hty;.rw[e]at st;show wpAny_pyIter_striter_ascii st h
  .rw[e]at st;show wpAny_pyIter_striter_wide st h
def ADK(te:TE):TI:=λB H R=>te B H λv Y=>∃x,v=.str x/\R (WM x) Y
def a0z(he:PE X e te):PI X tg e (ADK te):=by
 show λpins s B H R I h=>bg (he pins s B H _ I h) λv j z=>?_;let⟨y,Y,W,r1,x,ex,q⟩:=z;subst ex;let⟨t,rfl⟩:=r1;cases ha:x.cps.all (.<128);.show wpAny_pyIter_wide ha (af7 (tk:=j.toks) W _ (amx _ x t "str_iterator" (.inr rfl)) (et _ (f7 _ rfl) rfl rfl) q)
 .show wpAny_pyIter_ascii ha (af7 (tk:=j.toks) W _ (amx _ x t "str_ascii_iterator" (.inl rfl)) (et _ (f7 _ rfl) rfl rfl) q)
def a00{G}{j}(h:Paired G j q):∀{i:ai}{a:W},j[i]?=aa a->∃b,q[i]?=aa b/\G a b:=by
 induction h with
 |nil=>intro i a e;trivial
 |@cons a b j q r t ih=>intro i a' e;cases i<;>walk
def amy{o:Obj}(h:o.data=.dict es W)(h':o.data=.dict j q):j=es/\q=W:=by lia
def WN(K:ba)(a:Addr):It:=
 ⟨λi H=>∃xs x,AR K H a xs/\xs[i]?=aa x,λi H v H'=>∃T x,v=.ref T/\H T=af/\H'=upd H T (.tup [.int (i:ai),x])/\∀xs,AR K H a xs->xs[i]?=aa x,λi H=>∃xs:ab V,AR K H a xs/\xs.length<=i⟩
def a01{K}(a e it):
 Turn P w K (.Tuple elts kk tpos) (WN K a) [e,it] e (λi h=>(∃j,IsEnum h e it i j)/\h.IsListIter it a i/\e≠it)where
 mem:=yS
 obj:=λi h st b hb=>by
  let⟨⟨j,he⟩,⟨o,ho,hc,hd⟩,_⟩:=st;obtain z|z:=(by simpa using hb);.erw[z,ap _ he λv q=>nomatch q]
  .erw[z,ap o ho λv q=>by rw[hd]at q;cases q]
 keep:=λi h h' st k=>d9 st λzq581_1 hi W=>xE zq581_1 λj he=>⟨⟨j,k e yS _ he⟩,hi.at λo q=>k it yS o q,W⟩
 item:=by
  show λX hP hw hK hc i pins s B H E I hf st hg=>QY λz1=>?_;subst hP hw hK;let⟨⟨j,he⟩,hit,W⟩:=st;show jd hg λxs x hq hx=>bz (I.list hq) λU rv p hz=>?_;let⟨u,hu,ru⟩:=rv.get hx;let hel:=ec he;apply z1.f;show wpAny_pyNext_enum_item he hit p.isList (x:=u) (by simpa using hu) W λh' ho hit' hT hsz hk=>ap _ rfl (bhc ho λh'' he' sb=>?_);let hT2:=(sb.2 _ (uq hel)).trans hT;let new:CB X.prog X.w (upd H s.heap.objs.size (.tup [.int (i:ai),x])) h'' s.heap.objs.size (.tup [.int (i:ai),x]):=
   ⟨by change 2<=aw;decide,[.int i s.toks,u],.cons ⟨_,rfl⟩ (.cons ru .nil),(lx _ hT2 rfl _ rfl)⟩;let I1:Inv X pins B _ {s with heap:=h'',toks:=s.toks+1}:=
   I.adm (ch:=[e,it]) (λb ob hb q=>(sb.2 b (λz=>hb (by simp[z]))).trans (hk b ob (λz=>hb (by simp[z])) (λz=>hb (by simp[z])) q)) hf (b8 _) new;show jx (.ref s.heap.objs.size) _ I1 rfl (ic _ x rfl (I.bu.fresh (b8 _)) rfl (λys hy=>by erw[I.abn hy hq,hx])) ⟨⟨u,?_⟩,hit'.at λo q=>(sb.2 it (ji W)).trans q,W⟩ λb hb=>?_;.let e1:((i+1:ai):ak)=(i:ak)+1:=yL;erw[e1,he']
  .let hb':b<s.heap.objs.size:=by
    let e':b=e\/b=it:=by simpa using hb
    obtain z|z:=e';.erw[z,hel]
    .erw[z,(by show au hit λ_ q _=>ec q)]
   erw[a9 (g9 hb'),(hf b hb).1]
 done:=by show λX hP hw hK hc i pins s B H E I hf st hg=>QY λzz=>?_;subst hP hw hK;let⟨⟨j,he⟩,hit,W⟩:=st;let⟨xs,hq,hx⟩:=hg;let⟨U,rv,p,hz⟩:=I.list hq;show jc (hf it yS) λf0 f1 f2 f3 zq567_1=>xA zq567_1 λf4 f5=>?_;let hl:=rv.length;apply zz.f;show wpAny_pyNext_enum_end (I.ok.hd hc) he hit p.isList (by simp;lia) λh' eb=>⟨rfl,I.turned (t':=s.toks) (λb o hb q=>eb b o hb q) f0 f1 f3 f4 f5⟩
 self:=λA i s Q E st h=>xA st λzq566_1 _=>xE zq566_1 λ_ he=>ZQ he h
def ADL(K:ba)(ta:TA):TI:=λB H R=>ta B H λvs Y=>∃a xs,vs=[.ref a]/\AR K Y a xs/\R (WN K a) Y
def a02(hg:Gl X "enumerate")(hm:X.mg "enumerate"=af)(ha:PA X [e] ta)(hs:ed [e] X.env=[(ag,eval e X.env)]:=by rfl):
 PI X (.Tuple elts kk tpos) (.Call (.Name "enumerate" p) [e] [] pos) (ADL X.K ta):=by
 show λpins s B H R I h=>QG (o9 I hg hm bhd (JN (bg (ha pos pins s B H _ I h) λus j zz=>QY λz=>?_) hs rfl));let⟨vs,Y,I1,r1,q1⟩:=zz;show b7 q1 λa xs ex hq q=>?_;clear q1;subst ex;cases r1 with
 |cons r rr=>
  cases rr;cases r;show bz (I1.list hq) λU rv p' hz=>?_;apply z.f;show call_enumerate_list p'.isList λh' he hit hsz hk=>ZQ he ⟨j.heap.objs.size+1,[j.heap.objs.size+1,j.heap.objs.size],_,_,Y,rfl,(I1.kept hk),a01 a _ j.heap.objs.size,⟨⟨.none,he⟩,hit,bhe _⟩,λb hb=>?_,q⟩;let W:j.heap.objs.size<=b:=by grind
  show I1.t7 W (I1.bu.fresh W)
def amz:MI "zip"=aa (.type "zip"):=by decide+kernel
def WO(K:ba)(a b:Addr):It:=
 ⟨λi H=>∃xs ys x y,AR K H a xs/\AR K H b ys/\xs[i]?=aa x/\ys[i]?=aa y,
  λi H v H'=>∃T x y,v=.ref T/\H T=af/\H'=upd H T (.tup [x,y])/\(∀xs,AR K H a xs->xs[i]?=aa x)/\∀ys,AR K H b ys->ys[i]?=aa y,
  λi H=>∃xs ys:ab V,AR K H a xs/\AR K H b ys/\(xs.length<=i\/ys.length<=i)⟩
def a03{K}{a b z TI TO i1 i2}(D:ZR z TI TO i1 i2 a b):
 Turn P w K (.Tuple elts kk tpos) (WO K a b) [z,TI,TO,i1,i2] z (λi h=>wb h z TI TO .none/\oh h TI (.ref i1) (.ref i2)/\(∃x y,oh h TO x y)/\h.IsListIter i1 a i/\h.IsListIter i2 b i)where
 mem:=yS
 obj:=λi h st c hc=>by
  let⟨hz,j,⟨x,y,W⟩,⟨o1,e1,_,d1⟩,⟨o2,e2,_,d2⟩⟩:=st;let e':c=z\/c=TI\/c=TO\/c=i1\/c=i2:=by simpa using hc
  obtain q|q|q|q|q:=e';.erw[q,ap _ hz λv q=>nomatch q]
  .erw[q,ap _ j λv q=>nomatch q]
  .erw[q,ap _ W λv q=>nomatch q]
  .erw[q,ap o1 e1 λv q=>by rw[d1]at q;cases q]
  .erw[q,ap o2 e2 λv q=>by rw[d2]at q;cases q]
 keep:=λi h h' st k=>by let⟨hz,j,⟨x,y,W⟩,Z,h2⟩:=st;show⟨k z yS _ hz,k TI yS _ j,(m9 x y (k TO yS _ W)),Z.at λo q=>k i1 yS o q,h2.at λo q=>k i2 yS o q⟩
 item:=by
  show λX hP hw hK hc i pins s B H E I hf st hg=>QY λz1=>?_;subst hP hw hK;show jc st λhz j zq604_1 Z h2=>iy zq604_1 λx0 y0 W=>rl hg λxs ys x y hqx hqy hx hy=>bz (I.list hqx) λU rv p _=>bz (I.list hqy) λits2 rv2 p2 _=>?_;let⟨u,hu,ru⟩:=rv.get hx;let⟨u2,zq,ru2⟩:=rv2.get hy;let hzl:z<s.heap.objs.size:=ec hz;apply z1.f;show wpAny_pyNext_zip_item D hz j W Z h2 p.isList p2.isList (x:=u) (y:=u2) (by simpa using hu) (by simpa using zq) λh' z' TO' h1' h2' hT hsz hk=>ap _ rfl (bhf (s:={s with heap:=h'}) z' λh'' z'' sb=>?_);let hT2:=(sb.2 _ (uq hzl)).trans hT;let new:CB X.prog X.w (upd H s.heap.objs.size (.tup [x,y])) h'' s.heap.objs.size (.tup [x,y]):=
   ⟨by change 2<=aw;decide,[u,u2],.cons ru (.cons ru2 .nil),(lx _ hT2 rfl _ rfl)⟩;let I1:=
   I.adm (t':=s.toks) (ch:=[z,TI,TO,i1,i2]) (λc o hb q=>(sb.2 c (λq'=>hb (by simp[q']))).trans (hk c o (λq'=>hb (by simp[q'])) (λq'=>hb (by simp[q'])) (λq'=>hb (by simp[q'])) (λq'=>hb (by simp[q'])) q)) hf (b8 _) new;show jx (.ref s.heap.objs.size) _ I1 rfl (aau _ x y rfl (I.bu.fresh (b8 _)) rfl (λl hl=>by erw[I.abn hl hqx,hx]) (λl hl=>by erw[I.abn hl hqy,hy])) ⟨z'',(sb.2 _ D.TIz).trans (hk _ _ D.TIz D.TITO D.TIi1 D.TIi2 j),(m9 u u2 ((sb.2 _ D.TOz).trans TO')),h1'.at λo q=>(sb.2 _ D.i1z).trans q,h2'.at λo q=>(sb.2 _ D.i2z).trans q⟩ λc hcm=>?_
  .let hlt:c<s.heap.objs.size:=by
    obtain q|q|q|q|q:=(by simpa using hcm);.erw[q,hzl]
    .erw[q,ec j]
    .erw[q,ec W]
    .erw[q,au Z λ_ e1 _=>ec e1]
    .erw[q,au h2 λ_ e2 _=>ec e2]
   erw[a9 (g9 hlt),(hf c hcm).1]
 done:=by
  show λX hP hw hK hc i pins s B H E I hf st hg=>QY λzz=>?_;subst hP hw hK;let⟨hz,j,⟨x0,y0,W⟩,Z,h2⟩:=st;show b7 hg λxs ys hqx hqy hend=>bz (I.list hqx) λU rv p _=>bz (I.list hqy) λits2 rv2 p2 _=>?_;let l1:=rv.length;let l2:=rv2.length;let he:U.toArray[i]?=af\/its2.toArray[i]?=none:=by show hend.elim (λq=>.inl (by simp;lia)) λq=>.inr (by simp;lia)
  apply zz.f;show wpAny_pyNext_zip_end (I.ok.hd hc) D hz j W Z h2 p.isList p2.isList he λh' hk=>⟨rfl,I.amv (t':=s.toks) (ch:=[z,TI,TO,i1,i2]) (λc o hb q=>
   hk c o (λq'=>hb (by simp[q'])) (λq'=>hb (by simp[q'])) (λq'=>hb (by simp[q'])) (λq'=>hb (by simp[q'])) q) hf⟩
 self:=λA i s Q E st h=>ZS st.1 h
def ADM(K:ba)(ta:TA):TI:=λB H R=>ta B H λvs Y=>∃a b xs ys,vs=[.ref a,.ref b]/\AR K Y a xs/\AR K Y b ys/\R (WO K a b) Y
def a04{p pos tpos}{kk}(hg:Gl X "zip")(hm:X.mg "zip"=af)(ha:PA X [e,e2] ta)
 (hs:ed [e,e2] X.env=(ag,eval e X.env)::ed [e2] X.env:=by rfl)(hpl:(kb pos (ed [e2] X.env)).any (·.1)=false:=by rfl):
 PI X (.Tuple elts kk tpos) (.Call (.Name "zip" p) [e,e2] [] pos) (ADM X.K ta):=by
 show λpins s B H R I h=>QG (o9 I hg hm amz (JN (bg (ha pos pins s B H _ I h) λus j zz=>QY λz=>?_) hs hpl));let⟨vs,Y,W,r1,q1⟩:=zz;show rl q1 λa b xs ys ex hqx hqy q=>?_;clear q1;subst ex;cases r1 with
 |cons r rr=>
  cases rr with
  |cons r' rr=>
   cases rr;cases r;cases r';show bz (W.list hqx) λU rv p1 _=>bz (W.list hqy) λits2 rv2 p2 _=>?_;apply z.f;show call_zip_2 p1.isList p2.isList λh' hz hTI hTO Z h2 hsz hk=>ZS hz ⟨j.heap.objs.size+4,[j.heap.objs.size+4,j.heap.objs.size+2,j.heap.objs.size+3,j.heap.objs.size,j.heap.objs.size+1],_,_,Y,rfl,(W.kept hk),a03 (bhg j.heap.objs.size a b p1.lt p2.lt),⟨hz,hTI,(m9 _ _ hTO),Z,h2⟩,λc hcm=>?_,q⟩;let hle:j.heap.objs.size<=c:=by grind
   show W.t7 hle (W.bu.fresh hle)
end L2
section
end
section
namespace TL
open PySem PySem.Builtin PySem.Builtin.Str PySem.StrLaws
abbrev tl(x:Str):ab Nat:=x.cps.toList
def vk(x):x.length=(tl x).length:=rfl
def aa0(h:tl x=tl y):x=y:=Str.ext' (Array.toList_inj.mp h)
def ub(x y):tl (x++y)=tl x++tl y:=by grind[Str.cps_append,Array.toList_append]
def am0:∀{l m:ab Str},l.map tl=m.map tl->l=m
 |[],[],_=>rfl
 |[],_::_,h=>yT
 |_::_,[],h=>yT
 |x::l,y::m,h=>by injection h with Z h2;rw[aa0 Z,am0 h2]
noncomputable def pre(S l:ab ai):Bool:=l.take S.length==S
def CF(S:ab ai):ai->ab ai->ab ai->ab (ab ai)
 |_,acc,[]=>[acc]
 |0,acc,c::r=>if pre S (c::r)=ae then acc::CF S (S.length-1) [] r else CF S 0 (acc++[c]) r
 |k+1,acc,_::r=>CF S k acc r
def am1(S)(k)(acc):CF S k acc []=[acc]:=rfl
def am2(h:pre S (c::r)=ae):CF S 0 acc (c::r)=acc::CF S (S.length-1) [] r:=by change(if pre S _=ae then acc::CF S _ [] r else CF S 0 _ r)=_;walk
def am3(h:pre S (c::r)=ag):CF S 0 acc (c::r)=CF S 0 (acc++[c]) r:=by change(if pre S _=ae then acc::CF S _ [] r else CF S 0 _ r)=_;lia
def am4(S):∀(k)(acc l),CF S k acc l=CF S 0 acc (l.drop k)
 |0,_,_=>rfl
 |k+1,acc,[]=>rfl
 |k+1,acc,c::r=>am4 S k acc r
def a05(j:S≠[]):pre S []=false:=by
 cases S with
 |nil=>lia
 |cons s S=>rfl
def a06(S r)(h:c≠s):pre (s::S) (c::r)=false:=by grind[pre]
def a07(S r):pre S (S++r)=true:=by change((S++r).take S.length==S)=ae;simp
def a08{L:ab ai}(h:a<L.length):∃c,L.drop a=c::L.drop (a+1):=⟨L[a],yi h⟩
def am5(S L:ab ai):∀(m a)(acc),a+m<=L.length->(∀k,a<=k->k<a+m->pre S (L.drop k)=ag)->
 CF S 0 acc (L.drop a)=CF S 0 (acc++(L.drop a).take m) (L.drop (a+m)):=by
 intro m;induction m with
 |zero=>intro a acc _ _;simp
 |succ m I=>intro a acc h q;let j:a<L.length:=yL;let⟨c,e⟩:=a08 j;let W:=q a (b8 _) yL;let ih:=I (a+1) (acc++[c]) yL (λk Z h2=>q k yL yL);grind[am3,List.take_succ_cons,jl]
def a09(L:ab ai)(a b):(L.drop a).drop b=L.drop (a+b):=by simp
def a1a{S L:ab ai}(j:S≠[])(h:pre S (L.drop c)=ae):CF S 0 acc (L.drop c)=acc::CF S 0 [] (L.drop (c+S.length)):=by
 rw[<-a09];cases e:L.drop c with
 |nil=>grind[a05]
 |cons d r=>rw[e]at h;rw[am2 h,am4];cases S<;>walk
def am6(hy:tl y≠[])(i):At x y x.length i↔pre (tl y) ((tl x).drop i)=true:=by
 let hx:=vk x;let hl:=vk y;constructor;.intro h;let h2:=h.2;rw[subAt_eq]at h2;show h2
 .intro h;let e1:=eh wa (eq_of_beq h);rw[UU,MV]at e1;let e2:=bhh.mpr hy;show⟨yL,?_⟩;erw[subAt_eq,h]
def am7(j:tl y≠[])(h:¬At x y x.length i):pre (tl y) ((tl x).drop i)=false:=by simp_all[pre,tl,cj,am6]
def am8(j:tl y≠[]):1<=y.length:=(bhh.mpr j)
def am9(x)(i j):tl (strSub x i j)=((tl x).drop i).take (j-i):=strSub_toList x i j
def a1b(x)(i):tl (strSub x i x.length)=(tl x).drop i:=by simp[am9,vk,U1,MV]
def a1c(q:tl y≠[]):∀(j)(a f),a<=(tl x).length->ChainG x y x.length a j f->(∀k,f<=k->¬At x y x.length k)->
 (partsFrom x y.length a j).map tl=CF (tl y) 0 [] ((tl x).drop a):=by
 intro j;induction j with
 |nil=>intro a f ha h W;subst h;change[tl _]=_;let run:=am5 (tl y) (tl x) ((tl x).length-f) f [] yL (λk Z ζ=>am7 q (W k Z));let e2:f+((tl x).length-f)=(tl x).length:=yL;rw[e2,ZU,am1,qk,U1 yS]at run;rw[run,a1b]
 |cons c r I=>show λa f ha h W=>ly h λZ h2 h3 h4=>?_;let hc:=h2.1;let hx:=vk x;change tl _::(partsFrom x y.length _ r).map tl=_;let run:=am5 (tl y) (tl x) (c-a) a [] yL (λk k1 k2=>am7 q (h3 k k1 yL));let e2:a+(c-a)=c:=yL;rw[e2,qk,a1a q ((am6 q c).mp h2)]at run;rw[run,(I _ f yL h4 W),am9,(vk y)]
def HR(S:ab ai):ab (ab ai)->ab ai
 |[]=>[]
 |[p]=>p
 |p::q::r=>p++(S++HR S (q::r))
def af8(y):∀j,tl (ZV y j)=HR (tl y) (j.map tl)
 |[]=>rfl
 |[_]=>rfl
 |x::z::r=>by change tl (x++y++ZV y _)=tl x++(tl y++HR _ ((z::r).map tl));rw[ub,ub,af8 y _,jl]
def join_eq(y)(j):JX y j=ZV y j:=bhi y j
def HS(n:ai):ab Nat:=(JY 10 n).map M6
def ana(n:ai):tl (M7 (toString (n:ak)))=HS n:=bhj n
def anb:∀d,d<10->(avx d).toNat=48+d:=yD
def a1d(h:n<10):HS n=[48+n]:=by delta HS;rw[bhk h];change[(avx n).toNat]=_;rw[anb n h]
def a1e(h:10<=n):HS n=HS (n/10)++[48+n%10]:=by let hm:n%10<10:=Nat.mod_lt n yS;let t:JY 10 (n/10)++JY 10 _=JY 10 _:=Nat.toDigits_append_toDigits yS yL hm;rw[Nat.div_add_mod]at t;change(JY 10 n).map M6=_;rw[<-t,fe,bhk hm];change(JY 10 _).map M6++[(avx _).toNat]=_;rw[anb _ hm]<;>rfl
def a1f(n):avy (HS n):=by
 induction n using Nat.strongRecOn with
 |_ n ih=>
  by_cases h:n<10;.rw[a1d h];intro c hc;rw[fq.mp hc];lia
  .rw[a1e yL];intro c hc;obtain hc|hc:=sh.mp hc;.show ih _ yL c hc
   .rw[fq.mp hc];lia
def a1g(j:0<k)(h:n<10^k):(HS n).length<=k:=by let z:=blx (v:=n) yL j (by first|show avz.mpr h);rw[vk,ana]at z;omega
def DX(st:ab (ab ai)×ab ai)(c:ai):ab (ab ai)×ab Nat:=
 if QR c=ae then(if st.2=[]then st else(st.1++[st.2],[]))else(st.1,st.2++[c])
def G0(st:ab (ab ai)×ab ai):ab (ab ai):=if st.2=[]then st.1 else st.1++[st.2]
def adn(x):x.length=0↔tl x=[]:=bhl
def a1h(ws)(u)(c):((M8 (ws,u) c).1.map tl,tl (M8 (ws,u) c).2)=DX (ws.map tl,tl u) c:=by
 by_cases hc:QR c=ae
 .by_cases hu:u.length=0;.simp_all[M8,aj,DX,tl,adn]
  .let a:M8 (ws,u) c=(ws++[u],au4):=(aj hc).trans (ao hu);let b:DX (ws.map tl,tl u) c=(ws.map tl++[tl u],[]):=(aj hc).trans (ao λz=>hu ((adn u).mpr z));rw[a,b];rw[fe]<;>rfl
 simp_all[M8,ao,DX,tl,ub]
def anc:∀(l:ab ai)(st),((l.foldl M8 st).1.map tl,tl (l.foldl M8 st).2)=l.foldl DX (st.1.map tl,tl st.2)
 |[],_=>rfl
 |c::r,(j,u)=>(anc r _).trans (eh (r.foldl DX) (a1h j u c))
def a1i:∀q,(KWd.fin q).map tl=G0 (q.1.map tl,tl q.2)
 |(ws,u)=>by
  change(if u.length=0 then ws else ws++[u]).map tl=(if tl u=[]then ws.map tl else ws.map tl++[tl u]);by_cases hu:u.length=0;.simp_all[aj,adn]
  simp_all[ao,adn,fe]
def a1j(x):(JZ x).map tl=G0 ((tl x).foldl DX ([],[])):=by erw[KWd.words_scan,(a1i _).trans (eh G0 (anc _ ([],au4)))]
def ane:∀(p:ab ai)(j)(u),(∀c∈p,QR c=ag)->p.foldl DX (j,u)=(j,u++p)
 |[],j,u,_=>yS
 |c::r,j,u,h=>by rw[U5];let e:DX (j,u) c=(j,u++[c]):=ao yA;rw[e,ane r j _ λd hd=>h d (dj _ hd),jl]<;>rfl
def anf(Z:33<=c)(h2:c<=126):QR c=false:=bly Z h2
end TL
end
namespace L2
open PySem PySem.Spec PyProof.Rows
def ang:∀l,Vals ((l.map (·.1)).map V.str) (av0 l)
 |[]=>.nil
 |p::r=>.cons ⟨p.2,rfl⟩ (ang r)
def anh{ys us}(h:Vals (ys.map V.str) us):StrsAre us ys:=by
 induction ys generalizing us with
 |nil=>cases h;show .nil
 |cons y ys i=>
  cases h with
  |cons r t=>let⟨k,rfl⟩:=r;show .cons y k (i t)
def RM(ys:ab Str):Hp->VK->Prop:=λH Q=>∀p,H p=af->Q (.ref p) (upd H p (.lst (ys.map V.str)))
section
variable{X:Cx}{pins:ab (Addr×Obj)}{B:St}{H:Hp}{s:cu}{Q:VK}
def ani(I:Inv X pins B H s)(e:l.map (·.1)=ys)(hz:ys.length<=aw)(h:RM ys H Q):
 EP X pins B Q (.ref s.heap.objs.size) {s with toks:=k,heap:=s.heap.push {cls:=.type "list",data:=.seq (av0 l).toArray}}:=by show⟨.ref s.heap.objs.size,upd H s.heap.objs.size (.lst _),I.laid (λb u q=>dg _ q) (b8 _) (rh yA (av0 l) _ ?_ (f7 _ rfl)),rfl,h _ (I.bu.fresh (b8 _))⟩;erw[<-e,ang l]
end
section
variable{X:Cx}
def a1k(x):(JZ x).length<=x.length+1:=by let j:=StrLaws.words_weight x;lia
def anj:N2 X "str.split" (λx xs H Q=>∃a,x=.str a/\xs=[]/\a.length+2<=aw/\RM (JZ a) H Q):=by
 intro pins s B H x xs v us Q I q rs h;let⟨a,rfl,rfl,hz,h⟩:=h;let⟨t,rfl⟩:=q;cases rs;let hl:(JZ a).length<=sizeLine:=jh (a1k a) yL;let W:(av1 a (a.length+1)).length<=sizeLine:=by let e1:=(StrLaws.sw_weight a).1;let e2:=StrLaws.len_le_wsum (av1 a (a.length+1));lia
 show UZ av2 (UX _ _ _) F.entry_str_split (F.args_str_split_1 _) (meets_str_split_space a t yL W) ?_;cases j:av1 a _==[(0,a.length)];.erw[strsFrom_eq,ani I ((numbered_texts _ _).trans (ao (ne_true_of_eq_false j)).symm) hl h]
 .show ani (l:=[(a,t)]) I (aj j).symm hl h
def a1l:N2 X "str.join" (λx xs H Q=>∃a p,∃ys:ab Str,x=.str a/\xs=[.ref p]/\(AR X.K H p (ys.map V.str)\/AS X.K H p (ys.map V.str))/\
 (ys.map (·.length)).sum+ys.length*a.length<=16777216/\Q (.str (JX a ys)) H):=by
 show λpins s B H x xs v us Q I q rs h=>QY λz=>?_;let⟨a,p,ys,rfl,rfl,hp,hz,h⟩:=h;let⟨t,rfl⟩:=q;cases rs with
 |cons r1 rs=>
  cases rs;cases r1;obtain hp|hp:=hp;.show bz (I.list hp) λU r j _=>fg j λo n ho hc _ hd=>?_;apply z.f;show blz (lx o ho hc n hd) (anh r) hz λt' k=>⟨.str _,H,I.tok k,⟨t',rfl⟩,h⟩
  .let⟨U,r,W,_⟩:=I.tuple hp;apply z.f;show bl0 W (anh r) hz λt' k=>⟨.str _,H,I.tok k,⟨t',rfl⟩,h⟩
def a1m:B4 X (.type "int") (λxs H Q=>∃a n,xs=[.str a]/\bhm a=aa n/\a.length<=640/\Q (.int n) H):=by
 show λpins s B H xs us Q I rs h=>QY λz=>?_;let⟨a,n,rfl,j,hl,h⟩:=h;cases rs with
 |cons r1 rs=>cases rs;let⟨t,rfl⟩:=r1;apply z.f;show bl1 j hl ⟨.int n,H,I.tok _,⟨_,rfl⟩,h⟩
end
section
variable{X:Cx}
def a1n:BS X (ia .In) (λx y H Q=>∃c z,x=.str ⟨#[c]⟩/\y=.str z/\Q (.bl (decide (c∈z.cps.toList))) H):=by intro pins s B H x y v u Q I j W h;let⟨c,z,rfl,rfl,q⟩:=h;let⟨t,rfl⟩:=j;let⟨t',rfl⟩:=W;show bl2 (ac9 I q (bhn z c).symm)
def a1o:BS X (ia .NotIn) (λx y H Q=>∃c z,x=.str ⟨#[c]⟩/\y=.str z/\Q (.bl (!decide (c∈z.cps.toList))) H):=by intro pins s B H x y v u Q I j W h;let⟨c,z,rfl,rfl,q⟩:=h;let⟨t,rfl⟩:=j;let⟨t',rfl⟩:=W;show bl3 (ac9 I q (eh Bool.not (bhn z c).symm))
end
noncomputable def inClass(s:Stmt)(j:ai):Stmt:=match s with
 |.ClassDef _ _ _ body _ _ _ _ _ _ _=>body.getD j (.Pass ⟨0,0,0,0⟩)
 |_=>.Pass ⟨0,0,0,0⟩
def F0(s:Stmt):Arguments:=match s with
 |.FunctionDef _ a _ _ _ _ _ _ _ _=>a
 |_=>{posonlyargs:=[],args:=[],vararg:=af,kwonlyargs:=[],kw_defaults:=[],kwarg:=af,defaults:=[]}
def BC(s:Stmt):ab Stmt:=match s with
 |.FunctionDef _ _ b _ _ _ _ _ _ _=>b
 |_=>[]
def AO(s:Stmt):Scope:=match s with
 |.FunctionDef _ _ _ _ _ _ sc _ _ _=>sc
 |_=>{kind:=.function,names:=[],isGenerator:=ag,isCoroutine:=ag}
abbrev ig:zl:=λj j j j j j=>il
abbrev E0:XK:=λj j j=>il
def wz:IK ig X E0:=λj j j j j j j h=>h.elim
structure pj(K:ba)(x qual:Str)(st:Stmt)(f:Addr)(fd:MN):Prop where
 ex:∃oc od kV doc pm an cdv ct osl,
  fd=qi x qual (F0 st) (BC st) (AO st) .none kV doc pm an cdv ct/\K.lookup f=aa ⟨oc,od,.func fd,osl⟩/\MU K cdv qual=ae
 kp:og K (.ref f)=ae
section
variable{P:de}{w:c9}{K:ba}{mg:Str->ah a6}{base:Heap}
def pj.ok{st}(F:pj K x qual st f fd)(S:iz N ps (AO st))(len:∀vs H Q E,sp vs H Q E->vs.length=ps.length)
 (hbody:∀(W)(A)(j)(s)(H)(vs)(Q)(E),ie k (A.deeper (v9 qual (AO st) s.heap.objs.size f W))->sp vs H Q E->
   ∃t,B9 (EM ig P w K mg base N qual (AO st) f W A j s H E).nj (BC st) t/\t {nx:=λζ H'=>Q .bj H',rt:=Q} (start N vs) H):g8 P w K mg base ig (k+1) f fd ps sp:=by let⟨oc,od,kV,doc,pm,an,W,ct,osl,rfl,lk,hcd⟩:=F.ex;show zm lk hcd S len λA j s H vs Q E hr hsp=>au (hbody W A j s H vs Q E hr hsp) λt h q=>ap t h.nj q
def pj.binds{st}(F:pj K x qual st f fd)
 (h:∀(kV doc pm)(an)(cdv ct)(us),us.length=ps.length->UQ (qi x qual (F0 st) (BC st) (AO st) .none kV doc pm an cdv ct) ⟨us,[]⟩=pure (ps.zip us)):Binds K fd ps []:=by show iy F.ex λoc od j=>iy j λkV doc q=>iy q λpm an W=>kj W λcdv ct osl zq639_4 lk hcd=>?_;clear j q W;subst zq639_4;show .all (h kV doc pm an cdv ct)
def zr{st}{kV W pm q ct}(l:K.lookup f=aa ⟨oc,od,.func (qi x j (F0 st) (BC st) (AO st) .none kV W pm an q ct),osl⟩)
 (c:MU K q j=ae)(k:og K (.ref f)=ae):pj K x j st f (qi x j (F0 st) (BC st) (AO st) .none kV W pm an q ct):=⟨⟨oc,od,kV,W,pm,an,q,ct,osl,rfl,l,c⟩,k⟩
end
def a1p(h:n<=1000):n<sizeLine:=av3 h yD
section
variable{X:Cx}
def pv(i){pos}(q:X.N[i]?=aa x:=by rfl)(W:X.env.scope.names.lookup x=aa .local:=by rfl)(hd:(x==("__debug__":Str))=false:=by decide)
 (j:(x==("__classdict__":Str))=false:=by decide):PE X (.Name x pos) (NW i):=js q (.inl W) hd j
def a1q:B4 X (.builtin "len") (λxs H Q=>∃a kvs,xs=[V.ref a]/\H a=aa (.dK kvs)/\Q (.int kvs.length) H):=by show λpins s B H xs us Q I r h=>b7 h λa kvs j ha q=>?_;clear h;subst j;let⟨u,rfl,W⟩:=vals1 r;cases W;show a0m I (.inl ha) λt s' I'=>⟨.int kvs.length,H,I',⟨t,rfl⟩,q⟩
end
def AH(H H':Hp):Prop:=∀b o,H b=aa o->H' b=aa o
def AH.refl(H:Hp):AH H H:=λj j h=>h
def AH.trans(a:AH H Y)(b:AH Y H2):AH H H2:=λc o h=>b c o (a c o h)
def AH.free(e:AH H H')(h:H' l=af):H l=af:=by
 cases q:H l with
 |none=>rfl
 |some o=>rw[e l o q]at h;omega
def AH.made{x dx C}(j:H x=af)(nd:H dx=af)(k:∀b o,(upd (upd H dx (.own x)) x (.ins C dx [])) b=aa o->b≠x->Y b=aa o):AH H Y:=λb o e=>
 k b o (by rw[a9 (fw e j),a9 (fw e nd)];omega) (fw e j)
end L2
namespace DL
open PySem PySem.Spec PyProof.Rows L2
structure NQ(p:Prop):Prop where f:p->il
theorem QQ(h:NQ p->il):p:=UG λa=>h ⟨a⟩
def nn{j}{x:j}{p:Prop}(h:af=aa x):p:=nomatch h
def nb{p:Prop}(h:ag=ae):p:=nomatch h
inductive D where
 |bj|bl(b:a4)|int(i:ak)|str(x:Str)|ty(n:qf)
 |tup(l:ab D)|lst(l:ab D)|fl(l:ab D)
 |d8(ks:ab Key)(l:ab D)
 |obj(c:Str)(ns:ab Str)(l:ab D)
deriving Inhabited
mutual
def Dr(K:ba)(cls:Str->Addr)(H:Hp):V->D->Prop
 |v,.bj=>v=.bj
 |v,.bl b=>v=.bl b
 |v,.int i=>v=.int i
 |v,.str x=>v=.str x
 |v,.ty n=>v=.ty n
 |v,.tup l=>∃a xs,v=.ref a/\AS K H a xs/\AJ K cls H xs l
 |v,.lst l=>∃a xs,v=.ref a/\H a=aa (.lst xs)/\AJ K cls H xs l
 |v,.fl l=>∃a xs,v=.ref a/\AR K H a xs/\AJ K cls H xs l
 |v,.d8 ks l=>∃a kvs,v=.ref a/\H a=aa (.dK kvs)/\kvs.map (·.1)=ks/\AJ K cls H (kvs.map (·.2)) l
 |v,.obj c ns l=>∃a dx fs,v=.ref a/\H a=aa (.ins (cls c) dx fs)/\fs.map (·.1)=ns/\AJ K cls H (fs.map (·.2)) l
def AJ(K:ba)(cls:Str->Addr)(H:Hp):ab V->ab D->Prop
 |vs,[]=>vs=[]
 |vs,d::l=>∃v j,vs=v::j/\Dr K cls H v d/\AJ K cls H j l
end
section
variable{K:ba}{cls:Str->Addr}{H:Hp}
def Dr.bj:Dr K cls H .bj .bj:=by rw[Dr]
def Dr.bl(b):Dr K cls H (.bl b) (.bl b):=rfl
def Dr.int(i):Dr K cls H (.int i) (.int i):=rfl
def Dr.str(x):Dr K cls H (.str x) (.str x):=rfl
def Dr.ty(n):Dr K cls H (.ty n) (.ty n):=rfl
def Dr.tup{a xs l}(h:AS K H a xs)(g:AJ K cls H xs l):Dr K cls H (.ref a) (.tup l):=(dq a xs rfl h g)
def Dr.lst{a xs l}(h:H a=aa (.lst xs))(g:AJ K cls H xs l):Dr K cls H (.ref a) (.lst l):=(dq a xs rfl h g)
def Dr.fl{a xs l}(h:AR K H a xs)(g:AJ K cls H xs l):Dr K cls H (.ref a) (.fl l):=(dq a xs rfl h g)
def Dr.d8{a kvs ks l}(h:H a=aa (.dK kvs))(k:kvs.map (·.1)=ks)(g:AJ K cls H (kvs.map (·.2)) l):Dr K cls H (.ref a) (.d8 ks l):=(ic a kvs rfl h k g)
def Dr.obj{a dx c fs ns l}(h:H a=aa (.ins (cls c) dx fs))(k:fs.map (·.1)=ns)(g:AJ K cls H (fs.map (·.2)) l):Dr K cls H (.ref a) (.obj c ns l):=(o7 a dx fs rfl h k g)
def AJ.nil:AJ K cls H [] []:=by rw[AJ]
def AJ.cons{v vs d l}(h:Dr K cls H v d)(g:AJ K cls H vs l):AJ K cls H (v::vs) (d::l):=(dq v vs rfl h g)
end
inductive rn(K:ba)(cls:Str->Addr)(H:Hp):V->D->Prop
 |bj:rn K cls H .bj .bj
 |bl(b:a4):rn K cls H (.bl b) (.bl b)
 |int(i:ak):rn K cls H (.int i) (.int i)
 |str(x:Str):rn K cls H (.str x) (.str x)
 |ty(n:qf):rn K cls H (.ty n) (.ty n)
 |tup{a:Addr}{xs:ab V}{ds:ab D}:AS K H a xs->AJ K cls H xs ds->rn K cls H (.ref a) (.tup ds)
 |lst{a:Addr}{xs:ab V}{ds:ab D}:H a=aa (.lst xs)->AJ K cls H xs ds->rn K cls H (.ref a) (.lst ds)
 |fl{a:Addr}{xs:ab V}{ds:ab D}:AR K H a xs->AJ K cls H xs ds->rn K cls H (.ref a) (.fl ds)
 |d8{a:Addr}{kvs:ab (Key×V)}{ks:ab Key}{ds:ab D}:H a=aa (.dK kvs)->kvs.map (·.1)=ks->AJ K cls H (kvs.map (·.2)) ds->rn K cls H (.ref a) (.d8 ks ds)
 |obj{a dx:Addr}{c:Str}{fs:ab (Str×V)}{ns:ab Str}{ds:ab D}:H a=aa (.ins (cls c) dx fs)->fs.map (·.1)=ns->AJ K cls H (fs.map (·.2)) ds->rn K cls H (.ref a) (.obj c ns ds)
inductive WQ(K:ba)(cls:Str->Addr)(H:Hp):ab V->ab D->Prop
 |nil:WQ K cls H [] []
 |cons{v:V}{vs:ab V}{d:D}{ds:ab D}:Dr K cls H v d->AJ K cls H vs ds->WQ K cls H (v::vs) (d::ds)
def Dr.e{K}:∀{d},Dr K cls H v d->rn K cls H v d
 |.bj,h=>by cases h;show .bj
 |.bl _,h=>by cases h;show .bl _
 |.int _,h=>by cases h;show .int _
 |.str _,h=>by cases h;show .str _
 |.ty _,h=>by cases h;show .ty _
 |.tup _,h=>by let⟨_,_,rfl,a,b⟩:=h;show .tup a b
 |.lst _,h=>by let⟨_,_,rfl,a,b⟩:=h;show .lst a b
 |.fl _,h=>by let⟨_,_,rfl,a,b⟩:=h;show .fl a b
 |.d8 _ _,h=>by show fg h λ_ _ j a b c=>?_;subst j;show .d8 a b c
 |.obj _ _ _,h=>by show fh h λ_ _ _ q a b c=>?_;subst q;show .obj a b c
def AJ.e{K}:∀{l},AJ K cls H vs l->WQ K cls H vs l
 |[],h=>by cases h;show .nil
 |_::_,h=>by show b7 h λ_ _ j a b=>?_;subst j;show .cons a b
section
variable{K:ba}{cls:Str->Addr}{H H':Hp}
def WR:HO->a4
 |.ext _=>ae
 |.AN _ (.ext _)=>ae
 |_=>ag
def IM(H H':Hp):Prop:=∀b o,H b=aa o->WR o=ag->H' b=aa o
def AS.abv(e:IM H H')(h:AS K H a xs):AS K H' a xs:=by
 obtain(h|⟨o,h⟩)|h:=h;.show .inl (.inl (e _ _ h rfl))
 .show .inl (.inr ⟨o,e _ _ h rfl⟩)
 .show .inr h
def AR.abv(e:IM H H')(h:AR K H a xs):AR K H' a xs:=by
 obtain(h|⟨o,h⟩)|h:=h;.show .inl (.inl (e _ _ h rfl))
 .show .inl (.inr ⟨o,e _ _ h rfl⟩)
 .show .inr h
mutual
theorem Dr.li(e:IM H H'):∀d v,Dr K cls H v d->Dr K cls H' v d
 |.bj,_,h=>by cases h;show .bj
 |.bl b,_,h=>by cases h;show .bl b
 |.int i,_,h=>by cases h;show .int i
 |.str x,_,h=>by cases h;show .str x
 |.ty n,_,h=>by cases h;show .ty n
 |.tup ds,_,h=>by let⟨_,_,rfl,a,b⟩:=h;show .tup (AS.abv e a) (AJ.li e ds _ b)
 |.lst ds,_,h=>by let⟨_,_,rfl,a,b⟩:=h;show .lst (e _ _ a rfl) (AJ.li e ds _ b)
 |.fl ds,_,h=>by let⟨_,_,rfl,a,b⟩:=h;show .fl (AR.abv e a) (AJ.li e ds _ b)
 |.d8 ks ds,_,h=>by let⟨_,_,rfl,a,k,b⟩:=h;show .d8 (e _ _ a rfl) k (AJ.li e ds _ b)
 |.obj c ns ds,_,h=>by let⟨_,_,_,rfl,a,k,b⟩:=h;show .obj (e _ _ a rfl) k (AJ.li e ds _ b)
theorem AJ.li(e:IM H H'):∀ds vs,AJ K cls H vs ds->AJ K cls H' vs ds
 |[],_,h=>by cases h;show .nil
 |d::ds,_,h=>by let⟨_,_,rfl,a,b⟩:=h;show .cons (Dr.li e d _ a) (AJ.li e ds _ b)
end
section
variable(e:AH H H')
include e
def ado:IM H H':=λb o h j=>e b o h
def AS.same(h:AS K H a xs):AS K H' a xs:=AS.abv (ado e) h
def AR.same(h:AR K H a xs):AR K H' a xs:=AR.abv (ado e) h
def Dr.mono(d)(v)(h:Dr K cls H v d):Dr K cls H' v d:=Dr.li (ado e) d v h
def AJ.mono(ds)(vs)(h:AJ K cls H vs ds):AJ K cls H' vs ds:=AJ.li (ado e) ds vs h
end
def Dr.up(h:Dr K cls H v d)(e:AH H H'):Dr K cls H' v d:=Dr.mono e d v h
def AJ.up(h:AJ K cls H vs ds)(e:AH H H'):AJ K cls H' vs ds:=AJ.mono e ds vs h
def AJ.length:∀{vs}{ds},AJ K cls H vs ds->vs.length=ds.length
 |_,[],h=>by cases h;rfl
 |_,_::ds,h=>by show b7 h λ_ _ j a b=>?_;subst j;simp[AJ.length b]
def AJ.get:∀{vs}{ds}{i:ai}{d},AJ K cls H vs ds->ds[i]?=aa d->∃v,vs[i]?=aa v/\Dr K cls H v d
 |_,[],_,_,_,e=>yT
 |_,x::ds,0,d,h,e=>by cases h<;>grind
 |_,x::ds,i+1,d,h,e=>by show b7 h λ_ _ j a b=>?_;show au (AJ.get b yT) λv h1 h2=>?_;walk
def AJ.append:∀{vs q}{ds es},AJ K cls H vs ds->AJ K cls H q es->AJ K cls H (vs++q) (ds++es)
 |_,_,[],_,h,g=>by cases h;trivial
 |_,_,_::ds,_,h,g=>by show b7 h λ_ _ j a b=>?_;subst j;show .cons a (AJ.append b g)
def AJ.snoc(h:AJ K cls H vs ds)(g:Dr K cls H v d):AJ K cls H (vs++[v]) (ds++[d]):=h.append (.cons g .nil)
def AJ.drop:∀{vs}{ds}(n),AJ K cls H vs ds->AJ K cls H (vs.drop n) (ds.drop n)
 |_,_,0,h=>h
 |_,[],n+1,h=>by cases h;rfl
 |_,_::ds,n+1,h=>by show b7 h λ_ _ j a b=>?_;subst j;show AJ.drop n b
def AJ.take:∀{vs}{ds}(n),AJ K cls H vs ds->AJ K cls H (vs.take n) (ds.take n)
 |_,_,0,h=>.nil
 |_,[],n+1,h=>by cases h;rfl
 |_,_::ds,n+1,h=>by show b7 h λ_ _ j a b=>?_;subst j;show .cons a (AJ.take n b)
end
mutual
def toPy:D->JT
 |.bj=>.none
 |.bl b=>.bool b
 |.int i=>.int i
 |.str x=>.str x
 |.ty _=>.dict []
 |.tup l=>.tuple (DF l)
 |.lst l=>.list (DF l)
 |.fl _=>.dict []
 |.d8 _ _=>.dict []
 |.obj _ _ _=>.dict []
def DF:ab D->ab JT
 |[]=>[]
 |d::l=>toPy d::DF l
end
section
variable{K:ba}{cls:Str->Addr}{H:Hp}
mutual
theorem Dr.dp:∀d v,Dr K cls H v d->(toPy d).canLay0=ae->Dp K H v (toPy d)
 |.bj,_,h,_=>by cases h;show .bj
 |.bl b,_,h,_=>by cases h;show .bl b
 |.int i,_,h,_=>by cases h;show .int i
 |.str x,_,h,_=>by cases h;show .str x
 |.ty n,_,h,c=>by simp[toPy,qm]at c
 |.tup ds,_,h,c=>by let⟨_,_,rfl,a,b⟩:=h;show .tup a (AJ.dp ds _ b (by simpa[toPy,qm]using c))
 |.lst ds,_,h,c=>by let⟨_,_,rfl,a,b⟩:=h;show .lst (AR.of a) (AJ.dp ds _ b (by simpa[toPy,qm]using c))
 |.fl _,_,h,c=>by simp[toPy,qm]at c
 |.d8 _ _,_,h,c=>by simp[toPy,qm]at c
 |.obj _ _ _,_,h,c=>by simp[toPy,qm]at c
theorem AJ.dp:∀ds vs,AJ K cls H vs ds->QS (DF ds)=ae->zp K H vs (DF ds)
 |[],_,h,_=>by cases h;show .nil
 |d::ds,_,h,c=>by
  let⟨_,_,rfl,a,b⟩:=h;let j:(toPy d).canLay0=ae/\QS (DF ds)=true:=by simpa[DF,QS]using c
  show .cons (Dr.dp d _ a j.1) (AJ.dp ds _ b j.2)
end
end
def G1(a b:D):ah Bool:=if wc (toPy a)&&wc (toPy b)then aa (so (toPy a) (toPy b))else af
def C9(a b:D):ah Bool:=
 match a,b with
 |.int i,.int j=>aa (decide (i=j))
 |.str x,.str y=>aa (decide (x=y))
 |.int _,.str _=>aa ag
 |.str _,.int _=>aa ag
 |.bl i,.bl j=>aa (decide (i=j))
 |.str _,.tup _=>aa ag
 |.tup _,.str _=>aa ag
 |.int _,.tup _=>aa ag
 |.tup _,.int _=>aa ag
 |.tup l,.tup []=>aa l.isEmpty
 |.tup [],.tup (_::_)=>aa ag
 |a,b=>G1 a b
end DL
namespace DL
open PySem PySem.Spec PyProof.Rows L2
noncomputable def rs(O:Addr->a4)(H:Hp):Hp:=λa=>if O a=ae then af else H a
def BU(O:Addr->a4)(H:Hp):Prop:=∀a,O a=ae->H a≠af
section
variable{O:Addr->a4}{H H':Hp}
def cq(O)(H):AH (rs O H) H:=λb o h=>by grind[rs]
def AH.rs(O)(e:AH H H'):AH (DL.rs O H) (DL.rs O H'):=λb o h=>by
 delta DL.rs at h⊢;by_cases q:O b=ae;.grind
 .rw[ao q]at h⊢;show e _ _ h
def BU.up(h:BU O H)(e:AH H H'):BU O H':=λa q z=>by
 cases r:H a with
 |none=>show h a q r
 |some o=>rw[e _ _ r]at z;grind
def AH.new(h:H p=af):AH H (upd H p o):=λb u e=>by rw[a9 (fw e h)];omega
def adp(j:BU O H)(h:H p=af):rs O (upd H p o) p=aa o:=by delta rs;rw[ao (λq=>j p q h),cy]
def adq(h:H p=af):AH (rs O H) (rs O (upd H p o)):=AH.rs O (AH.new h)
end
section
variable(K:ba)(cls:Str->Addr)
def DG(O:Addr->a4)(H:Hp)(Q:VK)(r:D):Prop:=∀v H',AH H H'->Dr K cls (rs O H') v r->Q v H'
inductive rD(f:D->D->ah D)(x y:V)(H:Hp)(Q:VK):Prop|mk(O)(d)(e)(r)(hO:BU O H)(hx:Dr K cls (rs O H) x d)(hy:Dr K cls (rs O H) y e)(hf:f d e=aa r)(a:DG K cls O H Q r):rD f x y H Q
inductive l8(f:ab D->ah D)(vs:ab V)(H:Hp)(Q:VK):Prop|mk(O)(ds)(r)(hO:BU O H)(hx:AJ K cls (rs O H) vs ds)(hf:f ds=aa r)(a:DG K cls O H Q r):l8 f vs H Q
inductive WS(f:D->ab D->ah D)(x:V)(vs:ab V)(H:Hp)(Q:VK):Prop|mk(O)(d)(ds)(r)(hO:BU O H)(hx:Dr K cls (rs O H) x d)(hy:AJ K cls (rs O H) vs ds)(hf:f d ds=aa r)(a:DG K cls O H Q r):WS f x vs H Q
end
section
variable{K:ba}{cls:Str->Addr}{O:Addr->a4}{H:Hp}{Q:VK}
def DG.flat(a:DG K cls O H Q r)(h:Dr K cls (rs O H) v r):Q v H:=a v H (AH.refl H) h
def DG.tup(a:DG K cls O H Q (.tup ds))(j:BU O H)(hp:H p=af)(h:AJ K cls (rs O H) xs ds):Q (.ref p) (upd H p (.tup xs)):=
 a _ _ (AH.new hp) (.tup (.inl (.inl (adp j hp))) (h.up (adq hp)))
def DG.lst(a:DG K cls O H Q (.lst ds))(j:BU O H)(hp:H p=af)(h:AJ K cls (rs O H) xs ds):Q (.ref p) (upd H p (.lst xs)):=
 a _ _ (AH.new hp) (.lst (adp j hp) (h.up (adq hp)))
def Dr.all(h:Dr K cls (rs O H) v d):Dr K cls H v d:=h.up (cq O H)
def AJ.all(h:AJ K cls (rs O H) v d):AJ K cls H v d:=h.up (cq O H)
end
section
variable{X:Cx}{cls:Str->Addr}
def KO(a b:D):ah D:=(C9 a b).map D.bl
def HU(a b:D):ah D:=(C9 a b).map λc=>D.bl (!c)
def zt(h:G1 d e=aa b):wc (toPy d)=ae/\wc (toPy e)=ae/\so (toPy d) (toPy e)=b:=by grind[G1]
section
variable{pins:ab (Addr×Obj)}{B:L2.St}{H:Hp}{s:cu}
def ank{q:yf a6}{e:ai->a4}:∀j(h1)(h2:j<#[].size),av4 A s q[j] #[][j] (e j):=λj h1 h2=>cj h2 (av5 _)
def E3(A:jg)(s:cu)(u v:a6)(b:a4):Prop:=SeqAt.RcAt A s u v b/\av6 A s u v (!b)/\av4 A s u v b
def af9(I:Inv X pins B H s)(hu:A.units+64<jj)(rx:RelV x u)(ry:RelV y v)(hx:Dr X.K cls H x d)(hy:Dr X.K cls H y e)(h:C9 d e=aa b):E3 A s u v b:=by
 let q:A.units<cLine:=yL;let W:G1 d e=aa b->E3 A s u v b:=λz=>by
  let⟨c1,c2,rfl⟩:=zt z;let⟨as,r1⟩:=Dp.reads I _ x u (Dr.dp d x hx (uy c1)) rx;let⟨bs,r2⟩:=Dp.reads I _ y v (Dr.dp e y hy (uy c2)) ry;let hr:=SeqAt.room_of_shaped (db:=toPy e) c1 hu;show⟨SeqAt.rcAt_reads r1 r2 (uy c1) (uy c2) hr,SeqAt.rcNeAt_reads r1 r2 (uy c1) (uy c2) hr,
   SeqAt.eqAt_reads _ _ _ _ _ _ _ _ r1 r2 (uy c1) (uy c2) hr⟩
 let bq:∀{α:Type}[QB α](i j:α),(i==j)=decide (i=j):=λi j=>by rw[oj];simp
 cases d with
 |int=>
  cases e with
  |int=>cases hx;cases hy;cases h;let⟨t,rfl⟩:=rx;let⟨t',rfl⟩:=ry;erw[<-bq,⟨bl4 _ _ _ _,bl5 _ _ _ _,bl6 _ _ _ _⟩]
  |str=>cases hx;cases hy;cases h;let⟨t,rfl⟩:=rx;let⟨t',rfl⟩:=ry;show⟨bl7 _ _ _ _,bl8 _ _ _ _,bf9 _ _ _ _⟩
  |tup=>cases hx;cases h;let⟨t,rfl⟩:=rx;let⟨_,_,rfl,g1,g2⟩:=hy;cases ry;let⟨its,_,p,_⟩:=I.tuple g1;show⟨bl9 _ _ p q,bma _ _ p q,bho _ _ p q⟩
  |_=>show W h
 |str=>
  cases e with
  |str=>cases hx;cases hy;cases h;let⟨t,rfl⟩:=rx;let⟨t',rfl⟩:=ry;erw[<-bq,⟨bmb _ _ _ _,bmc _ _ _ _,bmd _ _ _ _⟩]
  |int=>cases hx;cases hy;cases h;let⟨t,rfl⟩:=rx;let⟨t',rfl⟩:=ry;show⟨bme _ _ _ _,bmf _ _ _ _,bga _ _ _ _⟩
  |tup=>cases hx;cases h;let⟨t,rfl⟩:=rx;let⟨_,_,rfl,g1,g2⟩:=hy;cases ry;let⟨its,_,p,_⟩:=I.tuple g1;show⟨bmg _ _ p q,bmh _ _ p q,bhp _ _ p q⟩
  |_=>show W h
 |bl=>
  cases e with
  |bl=>cases hx;cases hy;cases h;cases rx;cases ry;erw[<-bq,⟨bmi _ _,bmj _ _,bmk _ _⟩]
  |_=>show W h
 |tup l=>
  cases e with
  |str=>cases hy;cases h;let⟨t,rfl⟩:=ry;let⟨_,_,rfl,g1,g2⟩:=hx;cases rx;let⟨its,_,p,_⟩:=I.tuple g1;show⟨bml _ _ p q,bmm _ _ p q,bhq _ _ p q⟩
  |int=>cases hy;cases h;let⟨t,rfl⟩:=ry;let⟨_,_,rfl,g1,g2⟩:=hx;cases rx;let⟨its,_,p,_⟩:=I.tuple g1;show⟨bmn _ _ p q,bmo _ _ p q,bhr _ _ p q⟩
  |tup m=>
   cases m with
   |nil=>
    cases h;let⟨a1,xs,rfl,g1,g2⟩:=hx;let⟨b1,_,rfl,k1,k2⟩:=hy;cases k2;cases rx;cases ry;let⟨its,r1,p1,_⟩:=I.tuple g1;let⟨jts,r2,p2,_⟩:=I.tuple k1;cases r2;let hl:its.length=l.length:=by rw[<-r1.length,g2.length]
    let e1:=bhs (A:=A) (e:=λζ=>ae) p1 p2 q (ank (A:=A.in1));let e2:=bht (A:=A) (e:=λζ=>ae) p1 p2 q (ank (A:=A.in1));let key:((e6 (min its.toArray.size (([]:ab a6).toArray).size)).all (λζ=>ae)&&its.toArray.size==(([]:ab a6).toArray).size)=l.isEmpty:=by cases l<;>grind
    rw[key]at e1;let e2':av6 A s (.ref a1) (.ref b1) (!l.isEmpty):=by erw[<-key,e2]
    show⟨e1,e2',?_⟩;by_cases hab:a1=b1;.subst hab;let:xs=[]:=I.wt g1 k1;subst this;cases g2.e;show bmp _
    .show bhu hab e1
   |cons y ys=>
    cases l with
    |nil=>
     cases h;let⟨a1,_,rfl,g1,g2⟩:=hx;let⟨b1,xs,rfl,k1,k2⟩:=hy;cases g2;cases rx;cases ry;let⟨its,r1,p1,_⟩:=I.tuple g1;let⟨jts,r2,p2,_⟩:=I.tuple k1;cases r1;let hl:jts.length=(y::ys).length:=by rw[<-r2.length,k2.length]
     let e1:=bhs (A:=A) (e:=λζ=>ae) p1 p2 q (λj h1 h2=>cj h1 (av5 _));let e2:=bht (A:=A) (e:=λζ=>ae) p1 p2 q (λj h1 h2=>cj h1 (av5 _));let key:((e6 (min (([]:ab a6).toArray).size jts.toArray.size)).all (λζ=>ae)&&(([]:ab a6).toArray).size==jts.toArray.size)=false:=by
      cases jts with
      |nil=>cases hl
      |cons _ _=>simp
     rw[key]at e1;let e2':av6 A s (.ref a1) (.ref b1) (!ag):=by erw[<-key,e2]
     show⟨e1,e2',bhu (λhab=>?_) e1⟩;subst hab;let:[]=xs:=I.wt g1 k1;subst this;cases k2.e
    |cons=>show W h
  |_=>show W h
 |_=>show W h
def a1r(j:X.A.units+64<jj):BS X (ia .Eq) (rD X.K cls KO):=by show λpins s B H x y v u Q I q W y0=>QY λz=>?_;let⟨O,d,e,r,hO,hx,hy,hf,a⟩:=y0;let⟨b,hb,rfl⟩:=bo hf;apply z.f;show(af9 I j q W hx.all hy.all hb).1 _ _ _ _ ⟨.bl b,H,I,rfl,a.flat (.bl _)⟩
def a1s(j:X.A.units+64<jj):BS X (ia .NotEq) (rD X.K cls HU):=by show λpins s B H x y v u Q I q W y0=>QY λz=>?_;let⟨O,d,e,r,hO,hx,hy,hf,a⟩:=y0;let⟨b,hb,rfl⟩:=bo hf;apply z.f;show(af9 I j q W hx.all hy.all hb).2.1 _ _ _ _ ⟨.bl _,H,I,rfl,a.flat (.bl _)⟩
def ADN:a6->ah V
 |.none=>aa .bj
 |.bool b=>aa (.bl b)
 |.int i _=>aa (.int i)
 |.str x _=>aa (.str x)
 |.ref a=>aa (.ref a)
 |.type n=>aa (.ty n)
 |_=>af
def anl(h:L2.RelV x u):ADN u=aa x:=by
 cases x with
 |bj=>cases h;rfl
 |bl b=>cases h;rfl
 |int i=>let⟨t,rfl⟩:=h;rfl
 |str i=>let⟨t,rfl⟩:=h;rfl
 |ref a=>cases h;rfl
 |ty n=>cases h;rfl
def a1t(h1:L2.RelV x u)(h2:L2.RelV y u):x=y:=fo ((anl h1).symm.trans (anl h2))
def tup_kind(I:Inv X pins B H s)(h:AS X.K H a xs)(g:Dr X.K cls H (.ref a) d):∃l,d=.tup l/\AJ X.K cls H xs l:=by
 show QY λz=>bz (I.tuple h) λits _ j _=>bz j λo ho hc _=>?_;cases g.e with
 |tup q k2=>apply z.f;rw[I.wt h q];grind
 |lst q k2=>let⟨_,_,⟨o',n,e,c,_⟩,_⟩:=I.list (AR.of q);grind
 |fl q k2=>let⟨_,_,⟨o',n,e,c,_⟩,_⟩:=I.list q;grind
 |d8 q k2 k3=>show j5 (I.bu _ _ q) λ_ _ _ _ W=>kj W λo' _ _ e c _=>?_;grind
 |obj q k2 k3=>show jc (I.bu _ _ q) λ_ _ _ e _=>?_;grind
noncomputable def dOf:V->ah D
 |.bj=>aa .bj
 |.bl b=>aa (.bl b)
 |.int i=>aa (.int i)
 |.str x=>aa (.str x)
 |.ty n=>aa (.ty n)
 |_=>af
def abw{K}{H}(h:Dr K cls H z d)(e:dOf z=aa c):d=c:=by cases h.e<;>first|show fo e|show nn e
def a1u(I:Inv X pins B H s)(rz:RelV z y)(h1:Dr X.K cls H z d1)(h2:Dr X.K cls H z d2)(W:C9 d1 d=aa q)(j:C9 d2 d=aa k2):q=k2:=by
 let deep:G1 d1 d=aa q->G1 d2 d=aa k2->q=k2:=λa b=>by let⟨c1,_,rfl⟩:=zt a;let⟨c2,_,rfl⟩:=zt b;let⟨as,r1⟩:=Dp.reads I _ z y (Dr.dp d1 z h1 (uy c1)) rz;let⟨bs,r2⟩:=Dp.reads I _ z y (Dr.dp d2 z h2 (uy c2)) rz;rw[bmq _ _ _ _ _ (uy c1) r1 r2]
 let tu:∀l1,d1=.tup l1->q=k2:=λl1 hd1=>by
  subst hd1;show b7 h1 λ_ _ zq45_1 g1 g2=>?_;subst zq45_1;let⟨l2,rfl,g3⟩:=tup_kind I g1 h2;let hlen:l1.length=l2.length:=by rw[<-g2.length,g3.length]
  cases d with
  |str x=>cases W;cases j;rfl
  |int i=>cases W;cases j;rfl
  |tup m=>
   cases m with
   |nil=>cases W;cases j;cases l1<;>cases l2<;>first|rfl|trivial
   |cons y ys=>
    cases l1 with
    |nil=>cases l2<;>grind
    |cons _ _=>
     cases l2 with
     |nil=>cases hlen
     |cons _ _=>show deep W j
  |_=>show deep W j
 cases d1 with
 |tup l=>show tu l rfl
 |bj=>cases h1;cases abw h2 rfl;rw[W]at j;show fo j
 |bl b=>cases h1;cases abw h2 rfl;rw[W]at j;show fo j
 |int i=>cases h1;cases abw h2 rfl;rw[W]at j;show fo j
 |str x=>cases h1;cases abw h2 rfl;rw[W]at j;show fo j
 |ty n=>cases h1;cases abw h2 rfl;rw[W]at j;show fo j
 |lst l=>
  let⟨_,_,rfl,g1,g2⟩:=h1;cases h2.e with
  |lst q k2=>show deep W j
  |tup q k2=>show bz (I.tuple q) λits _ zq42_1 _=>bz zq42_1 λo ho hc _=>bz (I.list (AR.of g1)) λ_ _ zq41_1 _=>b7 zq41_1 λo' n e c _=>?_;rw[ho]at e;cases e;rw[hc]at c;show cj c yD
  |fl q k2=>let c:=(zt (j)).1;revert c;simp[toPy,wc,qm]
  |d8 q k2 k3=>rw[g1]at q;cases q
  |obj q k2 k3=>rw[g1]at q;cases q
 |fl l=>let c:=(zt (W)).1;revert c;simp[toPy,wc,qm]
 |d8 ks l=>let c:=(zt (show G1 _ _=aa q from W)).1;revert c;simp[toPy,wc,qm]
 |obj c ns l=>let c:=(zt (W)).1;revert c;simp[toPy,wc,qm]
end
def HV(g:ak->ak->D)(a b:D):ah D:=match a,b with
 |.int i,.int j=>aa (g i j)
 |_,_=>af
def anm(h:HV g a b=aa r):∃i j,a=.int i/\b=.int j/\r=g i j:=by
 cases a<;>w_top h
 cases b<;>w_top h
 cases h;simp
def abx(ho:BS X f (l6 g))(hg:∀K H i j,Dr K cls H (g i j) (q i j)):BS X f (rD X.K cls (HV q)):=by show λpins s B H x y v u Q I W ry y0=>QY λz=>?_;let⟨O,d,e,r,hO,hx,hy,hf,a⟩:=y0;let⟨i,j,rfl,rfl,rfl⟩:=anm hf;cases hx;cases hy;apply z.f;show ho pins s B H _ _ v u Q I W ry ⟨i,j,rfl,rfl,a.flat (hg _ _ i j)⟩
noncomputable def ltF:D->D->ah D:=HV λi j=>.bl (decide (i<j))
noncomputable def leF:D->D->ah D:=HV λi j=>.bl (decide (i<=j))
noncomputable def gtF:D->D->ah D:=HV λi j=>.bl (decide (j<i))
noncomputable def geF:D->D->ah D:=HV λi j=>.bl (decide (j<=i))
def E1:D->D->ah D:=HV λi j=>.int (i-j)
def a1v:BS X (ia .Lt) (rD X.K cls ltF):=abx ada λj j j j=>.bl _
def a1w:BS X (ia .LtE) (rD X.K cls leF):=abx adb λj j j j=>.bl _
def a1x:BS X (ia .Gt) (rD X.K cls gtF):=abx ak5 λj j j j=>.bl _
def a1y:BS X (ia .GtE) (rD X.K cls geF):=abx ays λj j j j=>.bl _
def a1z:BS X (vz .Sub) (rD X.K cls E1):=abx ayq λj j j j=>.int _
def BI(a b:D):ah D:=match a,b with
 |.int i,.int j=>aa (.int (i+j))
 |.str x,.str y=>if x.length+y.length<=aw then aa (.str (x++y))else af
 |.lst l,.lst m=>if l.length+m.length<=aw then aa (.lst (l++m))else af
 |.tup l,.tup m=>if l.length+m.length<=aw then aa (.tup (l++m))else af
 |_,_=>af
def a10(i j):BI (.int i) (.int j)=aa (.int (i+j)):=rfl
section
open PySem.MeetsSeq PySem.MeetsSeq2 PySem.MeetsSeq3 PySem.AutoSeq1
def N5(q:ah Addr)(j:yf a6)(n:ai)(W:yf (ah a6)):Obj:=⟨.type "tuple",q,.seq j n,W⟩
def tuple_addW0(l b)(its jts)(n m)(dd ee)(sl tl)(hc0:its.isEmpty=ae):
 Meets (Builtin.«tuple.__add__» ⟨[.ref l,.ref b],[]⟩) λζ R s=>s.heap.get? l=aa (N5 dd its n sl)/\s.heap.get? b=aa (N5 ee jts m tl)/\R (.ok (.ret (.ref b))) s:=by show .of_wp λprog w A R s h=>d9 h λhl hb h=>?_;delta N5 at hl hb;let f1:=AutoSeq1.sub_tuple_tuple;wp_walk using wpAny_loadPart' hl,wpAny_loadPart' hb;show ap _ rfl h
end
def a11{E}{s}{t b}{ws:ab a6}{Q}(ht:MH s.heap t (([]:ab a6).toArray))(hb:MH s.heap b ws.toArray)
 (h:Q (.ref b) s):ax (az prog w) A (vz .Add (.ref t) (.ref b)) Q E s:=by
 let⟨⟨cls,dd,data,sl⟩,ho,hc,n,hd⟩:=id ht;let⟨⟨cls2,q,data2,W⟩,j,hc2,n2,hd2⟩:=id hb;subst hc hd hc2 hd2;show ave (ap _ ho rfl) (ap _ j rfl) avf avg avh avi (avj _ _)
  (tuple_addW0 t b _ ws.toArray n n2 dd q sl W rfl) ⟨ho,j,h⟩
set_option tactic.hygienic true in
def ano:BS X (vz .Add) (rD X.K cls BI):=by
 intro pins s B H x y v u Q I rx ry y0;let⟨O,d,e,r,hO,hx,hy,hf,a⟩:=y0;cases d<;>cases e<;>w_top hf
 .cases hx;cases hy;cases hf;show ayp pins s B H _ _ v u Q I rx ry ⟨_,_,rfl,rfl,a.flat (.int _)⟩
 .change ite _ _ _=_ at hf;k_lt hf<;>w_top hf
  cases hx;cases hy;cases hf;ext hz;show ayw pins s B H _ _ v u Q I rx ry (ic _ _ rfl rfl hz (a.flat (.str _)))
 .change ite _ _ _=_ at hf;k_lt hf<;>w_top hf
  ext l m hz;let⟨_,_,rfl,h1,h2⟩:=hx;let⟨_,_,rfl,g1,g2⟩:=hy;cases hf;let t1:=AS.same (cq _ _) h1;let t2:=AS.same (cq _ _) g1;ext a1 xs b1 ys;by_cases hn:xs=[];.subst hn;cases h2.e;cases rx;cases ry;show bz (I.tuple t1) λits r1 p1 _=>bz (I.tuple t2) λits2 r2 p2 _=>?_;cases r1;show a11 p1 p2 ⟨.ref b1,H,I,rfl,a.flat (.tup g1 g2)⟩
  .show azr pins s B H _ _ v u Q I rx ry ⟨_,_,xs,ys,rfl,rfl,t1,t2,hn,by erw[h2.length,g2.length,hz],λe=>?_,λζ p hp=>a.tup hO hp (h2.append g2)⟩;subst e;cases g2.e;rw[ip]at a;show a.flat (.tup h1 h2)
 .change ite _ _ _=_ at hf;k_lt hf<;>w_top hf
  ext l m hz;let⟨_,_,rfl,h1,h2⟩:=hx;let⟨_,_,rfl,g1,g2⟩:=hy;cases hf;show az1 pins s B H _ _ v u Q I rx ry ⟨_,_,_,_,rfl,rfl,cq _ _ _ _ h1,cq _ _ _ _ g1,by erw[h2.length,g2.length,hz],λp hp=>a.lst hO hp (h2.append g2)⟩
def RN:ah a4->ah a4->ah a4
 |some b,aa c=>aa (b||c)
 |_,_=>af
def DH(d:D):ab D->ah a4
 |[]=>aa ag
 |e::l=>RN (C9 e d) (DH d l)
def N6(d c:D):ah D:=match c with
 |.tup l=>(DH d l).map D.bl
 |_=>af
def WT(d c:D):ah D:=match c with
 |.tup l=>(DH d l).map λb=>D.bl (!b)
 |_=>af
open Classical in
noncomputable def RO(K:ba)(cls:Str->Addr)(H:Hp)(d:D)(y:a6):Bool:=decide (∃z dz,RelV z y/\Dr K cls H z dz/\C9 dz d=aa ae)
open Classical in
def a12(I:Inv X pins B H s)(r:RelV z y)(h:Dr X.K cls H z j)(e:C9 j d=aa b):RO X.K cls H d y=b:=by
 delta RO;cases b;.show gi λq=>b7 q λz' W r' h' e'=>?_;cases a1t r r';show nb (a1u I r h h' e e')
 .show gm (dq z j r h e)
set_option tactic.hygienic true in
def anp(I:Inv X pins B H s)(hu:X.A.in1.units+64<jj)(rx:RelV x v)(hx:Dr X.K cls H x d):
 ∀(l)(xs)(us)(b),AJ X.K cls H xs l->Vals xs us->DH d l=aa b->
  (∀y,y∈us->av4 X.A.in1 s y v (RO X.K cls H d y))/\us.any (RO X.K cls H d)=b:=by
 intro l;induction l with
 |nil=>intro _ _ b hl rv hb;cases hl;cases rv;cases hb;simp
 |cons e l ih=>
  show λ_ _ b hl rv hb=>QY λz=>?_;let⟨_,_,rfl,h1,h2⟩:=hl;cases rv with
  |cons r1 r2=>
   rw[DH]at hb;delta RN at hb;k_lt hb
   .ext b1 b2 hb1 hb2;injection hb with hb;subst hb;let⟨k1,k2⟩:=ih _ _ b2 h2 r2 hb2;let ea:=a12 I r1 h1 hb1;apply z.f;show⟨λy hy=>?_,?_⟩
    .clear z;obtain rfl|hy:=df.mp hy;.erw[ea,(af9 I hu r1 rx h1 hx hb1).2.2]
     .show k1 y hy
    .rw[MZ,k2,ea]
   .trivial
def a13(j:X.A.in1.units+64<jj):BS X (ia .In) (rD X.K cls N6):=by
 show λpins s B H x y v u Q I q W y0=>QY λz=>?_;let⟨O,d,e,r,hO,hx,hy,hf,a⟩:=y0;delta N6 at hf;k_lt hf;.let⟨b,hb,rfl⟩:=bo hf;let⟨_,_,rfl,h1,h2⟩:=hy;cases W;let⟨its,r,pl,hz⟩:=I.tuple (AS.same (cq _ _) h1);let⟨k1,k2⟩:=anp I j q hx.all _ _ _ b h2.all r hb;apply z.f;show SeqAt.in_tupleAt _ pl (λw hw=>k1 w (by grind)) ⟨.bl b,H,I,?_,a.flat (.bl _)⟩;rw[bhv,k2];rfl
 .trivial
def a14(j:X.A.in1.units+64<jj):BS X (ia .NotIn) (rD X.K cls WT):=by
 show λpins s B H x y v u Q I q W y0=>QY λz=>?_;let⟨O,d,e,r,hO,hx,hy,hf,a⟩:=y0;delta WT at hf;k_lt hf;.let⟨b,hb,rfl⟩:=bo hf;let⟨_,_,rfl,h1,h2⟩:=hy;cases W;let⟨its,r,pl,hz⟩:=I.tuple (AS.same (cq _ _) h1);let⟨k1,k2⟩:=anp I j q hx.all _ _ _ b h2.all r hb;apply z.f;show SeqAt.notIn_tupleAt _ pl (λw hw=>k1 w (by grind)) ⟨.bl _,H,I,?_,a.flat (.bl _)⟩;rw[bhv,k2];rfl
 .trivial
noncomputable def isN(d c:D):ah Bool:=if c.ctorIdx=0 then aa (d.ctorIdx==0)else af
def AAJ(d c:D):ah D:=(isN d c).map D.bl
def a15{K}{H}(j:Dr K cls H x d)(q:Dr K cls H y c)(h:isN d c=aa b):y=.bj/\decide (x=.bj)=b:=by
 cases c<;>w_top h
 cases h;cases q;show⟨rfl,?_⟩;cases j.e<;>rfl
def a16:BS X (ia .Is) (rD X.K cls AAJ):=by show λpins s B H x y v u Q I j q W=>QY λz=>?_;let⟨O,d,e,r,hO,hx,hy,hf,a⟩:=W;let⟨b,hb,rfl⟩:=bo hf;let⟨rfl,e⟩:=a15 hx hy hb;apply z.f;show ayt pins s B H _ _ v u Q I j q ⟨rfl,a.flat (by rw[e];rfl)⟩
end
section
variable{X:Cx}{cls:Str->Addr}
def AM:ab D->ah D
 |[.tup l]=>aa (.int l.length)
 |[.lst l]=>aa (.int l.length)
 |[.fl l]=>aa (.int l.length)
 |[.d8 _ l]=>aa (.int l.length)
 |[.str x]=>if x.length<=aw then aa (.int x.length)else af
 |_=>af
def one{K}(h:AJ K cls H vs [d]):∃v,vs=[v]/\Dr K cls H v d:=by show b7 h λ_ _ j a b=>?_;cases b;grind
def two{K}(h:AJ K cls H vs [d,e]):∃v w,vs=[v,w]/\Dr K cls H v d/\Dr K cls H w e:=by show b7 h λ_ _ j a b=>?_;grind[one]
def a17:B4 X (.builtin "len") (l8 X.K cls AM):=by
 rintro pins s W H xs us Q I r⟨O,ds,d,hO,hd,hf,a⟩;obtain _|⟨e,l⟩:=ds;.show nn hf
 cases e<;>w_top hf
 all_goals
  cases l<;>w_top hf
  show au (one hd) λv j h=>?_;subst j
 .change ite _ _ _=_ at hf;k_lt hf<;>w_top hf
  injection hf with hf;subst hf;cases h;show azx pins s W H _ us Q I r (et _ rfl ‹_› (a.flat (.int _)))
 .cases hf;let⟨_,_,rfl,h1,h2⟩:=h;show abr pins s W H _ us Q I r ⟨_,_,rfl,.inr (AS.same (cq _ _) h1),a.flat (by erw[h2.length,.int _])⟩
 .cases hf;let⟨_,_,rfl,h1,h2⟩:=h;show abr pins s W H _ us Q I r ⟨_,_,rfl,.inl (AR.of (cq _ _ _ _ h1)),a.flat (by erw[h2.length,.int _])⟩
 .cases hf;let⟨_,_,rfl,h1,h2⟩:=h;show abr pins s W H _ us Q I r ⟨_,_,rfl,.inl (AR.same (cq _ _) h1),a.flat (by erw[h2.length,.int _])⟩
 .cases hf;show fg h λ_ _ q h1 h2 h3=>?_;subst q;show a1q pins s W H _ us Q I r (dq _ _ rfl (cq _ _ _ _ h1) (a.flat ?_));let e:=h3.length;rw[bt]at e;rw[e];rfl
def RQ:D->qf
 |.bj=>"NoneType"
 |.bl _=>"bool"
 |.int _=>"int"
 |.str _=>"str"
 |.tup _=>"tuple"
 |.lst _=>"list"
 |_=>""
def HW(a b:qf):ah Bool:=match b with
 |"int"=>(match a with|"int"=>aa ae|"bool"=>aa ae|"str"=>aa ag|"tuple"=>aa ag|"list"=>aa ag|"NoneType"=>aa ag|_=>af)
 |"str"=>(match a with|"int"=>aa ag|"bool"=>aa ag|"str"=>aa ae|"tuple"=>aa ag|"list"=>aa ag|"NoneType"=>aa ag|_=>af)
 |"tuple"=>(match a with|"int"=>aa ag|"bool"=>aa ag|"str"=>aa ag|"tuple"=>aa ae|"list"=>aa ag|"NoneType"=>aa ag|_=>af)
 |_=>af
def KP(a b c:qf):ah Bool:=match HW a b with
 |some ae=>aa ae
 |some ag=>HW a c
 |none=>af
def BJ:ab D->ah D
 |[d,.ty T]=>(HW (RQ d) T).map D.bl
 |[d,.tup [.ty T,.ty U]]=>(KP (RQ d) T U).map D.bl
 |_=>af
def anq{K}(h:HW a b=aa r):au5 K (.type a) (.type b)=aa r:=by delta HW at h;k_lt h<;>first|trivial|(k_lt h<;>first|(cases h;rfl)|trivial)
def a18{j:L2.St}{H}{s}{A}{E}{Q}{c}{b}{a}{xs}(I:Inv X pins j H s)(W:AS X.K H a xs)
 (e:au5 X.K (.type "tuple") c=aa b)(h:∀tk,Q (.bool b) {s with toks:=tk}):ax (az X.prog X.w) A (call (.builtin "isinstance") [.ref a,c]) Q E s:=by show QY λq=>bz (I.tuple W) λits _ p _=>bz p λo h1 h2 _=>?_;apply q.f;show v8 au7 I.gh (ap o h1 h2) e (λz=>nomatch z) h
def adt(b c):KP "" b c=none:=by
 let h:HW "" b=none:=by delta HW;split<;>rfl
 simp_all[KP]
def a19{K}(h:KP a b c=aa r):bhw K (.type a) [.type b,.type c]=aa r:=by grind[KP,bhw,anq]
def a2a{σ:L2.St}{H}{s}{A}{E}{Q}{b}{tp}{x}{d}{u}{T U}(I:Inv X pins σ H s)(rx:RelV x u)(hd:Dr X.K cls H x d)
 (ht:AS X.K H tp [.ty T,.ty U])(e:KP (RQ d) T U=aa b)(h:∀tk,Q (.bool b) {s with toks:=tk}):ax (az X.prog X.w) A (call (.builtin "isinstance") [u,.ref tp]) Q E s:=by
 show bz (I.tuple ht) λits rv j _=>j7 j λo g1 g2 n g3=>?_;clear j;let hi:its=[.type T,.type U]:=by
  clear g3;cases rv with
  |cons a r=>
   cases r with
   |cons b r=>cases r;cases(a);cases(b);rfl
 subst hi;let⟨c,dd,dt,sl⟩:=o;cases g2;cases g3;let k:=a19 (K:=X.K) e;cases hd.e with
 |bj=>cases(rx);show QT bgm I.gh lp g1 k (λz=>nomatch z) h
 |bl y=>cases(rx);show QT bgn I.gh lp g1 k (λz=>nomatch z) h
 |int i=>let⟨t,q⟩:=(rx);cases q;show QT bgo I.gh lp g1 k (λz=>nomatch z) h
 |str y=>let⟨t,q⟩:=(rx);cases q;show QT bgp I.gh lp g1 k (λz=>nomatch z) h
 |tup q1 q2=>cases rx;show bz (I.tuple q1) λ_ _ W _=>bz W λo2 p1 p2 _=>QT au7 I.gh (ap o2 p1 p2) g1 k (λz=>nomatch z) h
 |lst q1 q2=>cases rx;show vd (I.bu _ _ q1) λ_ _ n _ h1=>QT au6 I.gh (ap _ h1 rfl) g1 k (λz=>nomatch z) h
 |ty n=>show cj (e.symm.trans (adt T U)) (λq=>yT)
 |fl _ _=>show cj (e.symm.trans (adt T U)) (λq=>yT)
 |d8 _ _ _=>show cj (e.symm.trans (adt T U)) (λq=>yT)
 |obj _ _ _=>show cj (e.symm.trans (adt T U)) (λq=>yT)
set_option tactic.hygienic true in
def a2b:B4 X (.builtin "isinstance") (l8 X.K cls BJ):=by
 intro pins s σ H xs us Q I r y0;let⟨O,ds,d,hO,hd,hf,a⟩:=y0;obtain _|⟨_,_|⟨t,l⟩⟩:=ds<;>w_top hf
 cases t<;>w_top hf
 .cases l<;>w_top hf
  show b7 (two hd) λv w q h1 h2=>?_;subst q;clear hd;cases h2;let⟨b,hb,rfl⟩:=bo hf;let hk:=anq (K:=X.K) hb;clear hf;cases r with
  |cons r1 r2=>
   cases r2 with
   |cons r2 r3=>
    cases r3;cases r2;let j:∀tk,EP X pins σ Q _ {s with toks:=tk}:=λtk=>⟨.bl b,H,I.tok tk,rfl,a.flat (.bl _)⟩;cases h1.e with
    |bj=>show abq I r1 .bj hk j
    |bl x=>show abq I r1 (.bl x) hk j
    |int i=>show abq I r1 (.int i) hk j
    |str x=>show abq I r1 (.str x) hk j
    |tup g1 g2=>clear h1 hb;cases r1;show a18 I (AS.same (cq _ _) g1) hk j
    |lst g1 g2=>show abq I r1 (.lst (cq _ _ _ _ g1)) hk j
    |_=>show cj hb (by unfold RQ HW;split<;>simp)
 .ext m;obtain _|⟨t,m⟩:=m;.show nn hf
  cases t<;>w_top hf
  obtain _|⟨t,m⟩:=m;.show nn hf
  cases t<;>w_top hf
  cases m<;>w_top hf
  cases l<;>w_top hf
  let⟨v,w,rfl,h1,h2⟩:=two hd;clear hd;let⟨b,hb,rfl⟩:=bo hf;clear hf;show b7 h2 λ_ _ W g1 g2=>?_;subst W;let⟨x1,x2,rfl,q1,q2⟩:=two g2;clear g2;cases q1;cases q2;cases r with
  |cons r1 r2=>
   cases r2 with
   |cons r2 r3=>cases r3;cases r2;show a2a I r1 (h1.up (cq _ _)) (AS.same (cq _ _) g1) hb λtk=>⟨.bl b,H,I.tok tk,rfl,a.flat (.bl _)⟩
noncomputable def boolsOf:ab D->ah (ab a4)
 |[]=>aa []
 |.bl b::l=>(boolsOf l).map (b::.)
 |_::_=>af
noncomputable def intsOf:ab D->ah (ab ak)
 |[]=>aa []
 |.int b::l=>(intsOf l).map (b::.)
 |_::_=>af
noncomputable def strsOf:ab D->ah (ab Str)
 |[]=>aa []
 |.str b::l=>(strsOf l).map (b::.)
 |_::_=>af
def anr(h:boolsOf l=aa bs):l=bs.map D.bl:=by
 induction l generalizing bs with
 |nil=>cases h;rfl
 |cons d l i=>
  cases d<;>w_top h
  let⟨r,hr,rfl⟩:=bo h;rw[i hr];rfl
def aga(h:intsOf l=aa bs):l=bs.map D.int:=by
 induction l generalizing bs with
 |nil=>cases h;rfl
 |cons d l i=>
  cases d<;>w_top h
  let⟨r,hr,rfl⟩:=bo h;rw[i hr];rfl
def ant(h:strsOf l=aa bs):l=bs.map D.str:=by
 induction l generalizing bs with
 |nil=>cases h;rfl
 |cons d l i=>
  cases d<;>w_top h
  let⟨r,hr,rfl⟩:=bo h;rw[i hr];rfl
def adu:∀(bs),intsOf (bs.map D.int)=aa bs
 |[]=>rfl
 |b::bs=>by rw[b9,intsOf,adu bs];rfl
def adv:∀(bs),strsOf (bs.map D.str)=aa bs
 |[]=>rfl
 |b::bs=>by rw[b9,strsOf,adv bs];rfl
def AJ.zo{K}:∀{bs:ab a4}{vs},AJ K cls H vs (bs.map D.bl)->vs=bs.map V.bl
 |[],_,h=>by cases h;rfl
 |b::bs,_,h=>by show b7 h λ_ _ j h1 h2=>?_;subst j;cases h1;rw[AJ.zo h2];rfl
def AJ.ints{K}:∀{bs:ab ak}{vs},AJ K cls H vs (bs.map D.int)->vs=bs.map V.int
 |[],_,h=>by cases h;rfl
 |b::bs,_,h=>by show b7 h λ_ _ j h1 h2=>?_;subst j;cases h1;rw[AJ.ints h2];rfl
def AJ.strs{K}:∀{bs:ab Str}{vs},AJ K cls H vs (bs.map D.str)->vs=bs.map V.str
 |[],_,h=>by cases h;rfl
 |b::bs,_,h=>by show b7 h λ_ _ j h1 h2=>?_;subst j;cases h1;rw[AJ.strs h2];rfl
def anu{K}:∀(bs:ab ak),AJ K cls H (bs.map V.int) (bs.map D.int)
 |[]=>.nil
 |b::bs=>.cons (.int b) (anu bs)
def anv{K}:∀(bs:ab Str),AJ K cls H (bs.map V.str) (bs.map D.str)
 |[]=>.nil
 |b::bs=>.cons (.str b) (anv bs)
def B3:ab D->ah D
 |[.lst l]=>(boolsOf l).map λbs=>.bl (bs.all id)
 |_=>af
noncomputable def anyF:ab D->ah D
 |[.lst l]=>(boolsOf l).map λbs=>.bl (bs.any id)
 |_=>af
noncomputable def sumF:ab D->ah D
 |[.lst l]=>(intsOf l).map λns=>.int ns.sum
 |_=>af
def a2c(hc:X.calm=ae):B4 X (.builtin "all") (l8 X.K cls B3):=by
 show λpins s q H xs us Q I r W=>QY λz=>?_;let⟨O,ds,d,hO,hd,hf,a⟩:=W;delta B3 at hf;k_lt hf;.let⟨v,rfl,h⟩:=one hd;let⟨bs,hb,rfl⟩:=bo hf;let e:=anr hb;subst e;show b7 h λ_ _ j h1 h2=>?_;subst j;let e2:=h2.zo;subst e2;apply z.f;show az5 hc pins s q H _ us Q I r ⟨_,bs,rfl,AR.of (cq _ _ _ _ h1),a.flat (.bl _)⟩
 grind
def a2d(hc:X.calm=ae):B4 X (.builtin "any") (l8 X.K cls anyF):=by
 show λpins s q H xs us Q I r W=>QY λz=>?_;let⟨O,ds,d,hO,hd,hf,a⟩:=W;delta anyF at hf;k_lt hf;.let⟨v,rfl,h⟩:=one hd;let⟨bs,hb,rfl⟩:=bo hf;let e:=anr hb;subst e;show b7 h λ_ _ j h1 h2=>?_;subst j;let e2:=h2.zo;subst e2;apply z.f;show az4 hc pins s q H _ us Q I r ⟨_,bs,rfl,AR.of (cq _ _ _ _ h1),a.flat (.bl _)⟩
 grind
def a2e(hc:X.calm=ae):B4 X (.builtin "sum") (l8 X.K cls sumF):=by
 show λpins s q H xs us Q I r W=>QY λz=>?_;let⟨O,ds,d,hO,hd,hf,a⟩:=W;delta sumF at hf;k_lt hf;.let⟨v,rfl,h⟩:=one hd;let⟨bs,hb,rfl⟩:=bo hf;let e:=aga hb;subst e;show b7 h λ_ _ j h1 h2=>?_;subst j;let e2:=h2.ints;subst e2;apply z.f;show az3 hc pins s q H _ us Q I r ⟨_,bs,rfl,AR.of (cq _ _ _ _ h1),a.flat (.int _)⟩
 grind
def IP:ab D->ah D
 |[.lst l]=>aa (.tup l)
 |_=>af
def a2f:B4 X (.type "tuple") (l8 X.K cls IP):=by
 show λpins s j H xs us Q I r q=>QY λz=>?_;let⟨O,ds,d,W,hd,hf,a⟩:=q;obtain _|⟨d0,l0⟩:=ds;.show nn hf
 cases d0<;>w_top hf
 cases l0<;>w_top hf
 let⟨v,rfl,h⟩:=one hd;cases hf;let⟨_,_,rfl,h1,h2⟩:=h;apply z.f;show azy pins s j H _ us Q I r ⟨_,_,rfl,.inl ⟨AR.of (cq _ _ _ _ h1),λl hl=>a.tup W hl h2⟩⟩
def IQ:ab D->ah D
 |[.str a]=>if a.length<=640 then(bhm a).map D.int else af
 |[.int i]=>aa (.int i)
 |_=>af
def a2g:B4 X (.type "int") (l8 X.K cls IQ):=by
 show λpins s j H xs us Q I r q=>QY λz=>?_;let⟨O,ds,d,hO,hd,hf,a⟩:=q;delta IQ at hf;k_lt hf
 .k_lt hf;.let⟨v,rfl,h⟩:=one hd;cases h;ext hz;let⟨n,W,rfl⟩:=bo hf;apply z.f;show a1m pins s j H _ us Q I r (ic _ n rfl W hz (a.flat (.int _)))
  grind
 .let⟨v,rfl,h⟩:=one hd;cases h;cases hf;apply z.f;show ayy pins s j H _ us Q I r (.inl ⟨_,rfl,a.flat (.int _)⟩)
 grind
def HX:ab D->ah D
 |[.int i]=>if i.natAbs.log2<1920 then aa (.str (toString i))else af
 |[.str x]=>aa (.str x)
 |_=>af
def a2h:B4 X (.type "str") (l8 X.K cls HX):=by
 show λpins s j H xs us Q I r q=>QY λz=>?_;let⟨O,ds,d,hO,hd,hf,a⟩:=q;obtain _|⟨W,l⟩:=ds;.show nn hf
 cases W<;>w_top hf
 .cases l<;>w_top hf
  change(if _ then _ else _)=_ at hf;k_lt hf<;>try grind
  ext hz;let⟨v,rfl,h⟩:=one hd;cases h;cases hf;apply z.f;show ayz pins s j H _ us Q I r (et _ rfl hz (a.flat (.str _)))
 .cases l<;>w_top hf
  let⟨v,rfl,h⟩:=one hd;cases h;cases hf;let⟨u,rfl,t,rfl⟩:=r.one;apply z.f;show PySem.P.str_of_str ⟨.str _,H,I,⟨t,rfl⟩,a.flat (.str _)⟩
def N7:ab D->ah D
 |[.str x]=>if x.length=1 then aa (.int (x.cps.getD 0 0:ai))else af
 |_=>af
def a2i:B4 X (.builtin "ord") (l8 X.K cls N7):=by
 show λpins s j H xs us Q I r q=>QY λz=>?_;let⟨O,ds,d,W,hd,hf,a⟩:=q;delta N7 at hf;k_lt hf
 .k_lt hf;.let⟨v,rfl,h⟩:=one hd;cases h;injection hf with hf;subst hf;ext hz;apply z.f;show ay0 pins s j H _ us Q I r (et _ rfl hz (a.flat (.int _)))
  grind
 grind
noncomputable def ixF(a b:D):ah D:=match a,b with
 |.tup l,.int i=>BQ l i
 |.lst l,.int i=>BQ l i
 |.fl l,.int i=>BQ l i
 |.str z,.int i=>if z.length<=aw then(BQ z.cps.toList i).map λc=>.str ⟨#[c]⟩else af
 |_,_=>af
def agb{K}(h:AJ K cls H vs ds)(e:BQ ds i=aa d):∃v,BQ vs i=aa v/\Dr K cls H v d:=by delta BQ at e⊢;rw[h.length];let⟨j,q,e⟩:=ay e;show au (h.get e) λv W r=>?_;grind
def ixd:N1 X (rD X.K cls ixF):=by
 rintro value j pins s W H x y v u Q I rx ry⟨O,d,e,r,hO,hx,hy,hf,a⟩hs;cases d<;>w_top hf
 all_goals cases e<;>w_top hf
 .change ite _ _ _=_ at hf;k_lt hf<;>w_top hf
  cases hy;cases hx;ext hz;let⟨c,hc,rfl⟩:=bo hf;show azs value j pins s W H _ _ v u Q I rx ry ⟨_,_,_,rfl,rfl,hz,hc,a.flat (.str _)⟩ hs
 .cases hy;let⟨_,_,rfl,h1,h2⟩:=hx;let⟨z,hz,q⟩:=agb h2 hf;show alz value j pins s W H _ _ v u Q I rx ry ⟨_,_,_,_,rfl,rfl,AS.same (cq _ _) h1,hz,a.flat q⟩ hs
 .cases hy;let⟨_,_,rfl,h1,h2⟩:=hx;let⟨z,hz,q⟩:=agb h2 hf;show afz value j pins s W H _ _ v u Q I rx ry ⟨_,_,_,_,rfl,rfl,AR.of (cq _ _ _ _ h1),hz,a.flat q⟩ hs
 .cases hy;let⟨_,_,rfl,h1,h2⟩:=hx;let⟨z,hz,q⟩:=agb h2 hf;show afz value j pins s W H _ _ v u Q I rx ry ⟨_,_,_,_,rfl,rfl,AR.same (cq _ _) h1,hz,a.flat q⟩ hs
noncomputable def cutD(xs:ab D)(lo hi:ah ak):ab D:=(xs.drop (HT.BL xs.length 0 lo)).take (HT.BL xs.length xs.length hi-HT.BL xs.length 0 lo)
def IR(d:D)(lo hi:ah ak):ah D:=match d with
 |.tup l=>if HT.BL l.length 0 lo=0/\HT.BL l.length l.length hi=l.length then af else aa (.tup (cutD l lo hi))
 |.lst l=>aa (.lst (cutD l lo hi))
 |.fl l=>aa (.lst (cutD l lo hi))
 |_=>af
def agc{K}{lo hi}(h:AJ K cls H vs ds):AJ K cls H (KL vs lo hi) (cutD ds lo hi):=by unfold KL cutD;erw[h.length,(h.drop _).take _]
inductive anw(K:ba)(cls:Str->Addr)(x:V)(lo hi:ah ak)(H:Hp)(Q:VK):Prop|mk(O)(d)(r)(hO:BU O H)(hx:Dr K cls (rs O H) x d)(hf:IR d lo hi=aa r)(a:DG K cls O H Q r):anw K cls x lo hi H Q
def sld:RI X (anw X.K cls):=by
 show λpins s j H x v q W lo hi sl Q I rx hs pl pu y0=>QY λz=>?_;let⟨O,d,r,hO,hx,hf,a⟩:=y0;delta IR at hf;k_lt hf
 .k_lt hf;.grind
  .injection hf with hf;subst hf;let⟨_,_,rfl,h1,h2⟩:=hx;apply z.f;show azq pins s j H _ v q W lo hi sl Q I rx hs pl pu ⟨_,_,rfl,AS.same (cq _ _) h1,by rw[h2.length];omega,λp hp=>a.tup hO hp (agc h2)⟩
 .cases hf;let⟨_,_,rfl,h1,h2⟩:=hx;apply z.f;show al3 pins s j H _ v q W lo hi sl Q I rx hs pl pu ⟨_,_,rfl,AR.of (cq _ _ _ _ h1),λp hp=>a.lst hO hp (agc h2)⟩
 .cases hf;let⟨_,_,rfl,h1,h2⟩:=hx;apply z.f;show al3 pins s j H _ v q W lo hi sl Q I rx hs pl pu ⟨_,_,rfl,AR.same (cq _ _) h1,λp hp=>a.lst hO hp (agc h2)⟩
 grind
end
def F1:ab ak->ab ak->a4
 |[],[]=>ag
 |[],_::_=>ae
 |_::_,[]=>ag
 |x::r,y::t=>decide (x<y)||(decide (x=y)&&F1 r t)
def KQ(x:ab ak):ab (ab ak)->ab (ab ak)
 |[]=>[x]
 |y::r=>if F1 y x then y::KQ x r else x::y::r
def N8:ab (ab ak)->ab (ab ak)
 |[]=>[]
 |x::r=>KQ x (N8 r)
noncomputable def tD(t:ab ak):D:=.tup (t.map D.int)
def KR:ab D->ah (ab (ab ak))
 |[]=>aa []
 |.tup l::r=>(intsOf l).bind λt=>if t.isEmpty then af else(KR r).map (t::.)
 |_::_=>af
def FE:ab D->ah D
 |[.lst l]=>(KR l).map λts=>.lst ((N8 ts).map tD)
 |_=>af
def aa1:∀a b,av7 M9 (a.map ml) (b.map ml)=F1 a b
 |[],[]=>rfl
 |[],_::_=>rfl
 |_::_,[]=>rfl
 |x::r,y::t=>by rw[b9,b9,bmr,aa1 r t];change(decide _||(!decide _&&F1 r t))=(decide _||_);grind
def a2j(h1:F1 a b=ag)(h2:F1 b a=ag):a=b:=by let:=bms (O:=M9) (a.map ml) (b.map ml) (by grind[aa1]) (by grind[aa1]);grind[bhx]
def ED(a b:ab ak):Prop:=F1 b a=ag
def a2k{l m:ab (ab ak)}(h1:l.Pairwise ED)(h2:m.Pairwise ED)(p:l.Perm m):l=m:=
 bmt (λa b j j x y=>a2j y x) h1 h2 p
def agd(x):∀l,(KQ x l).Perm (x::l)
 |[]=>av8 _
 |y::r=>by
  delta KQ;split;.show((agd x r).cons y).trans (bhy x y r)
  rfl
def anx:∀l,(N8 l).Perm l
 |[]=>av8 _
 |x::r=>(agd x _).trans ((anx r).cons x)
def a2l(h1:ED a b)(h2:ED b c):ED a c:=by
 delta ED at*;rw[<-aa1]at*;cases h:av7 M9 _ (a.map ml)with
 |false=>rfl
 |true=>rcases(av9 M9).negTrans _ (b.map ml) _ h<;>grind
def anz(h:F1 a b=ae):F1 b a=false:=by
 rw[<-aa1]at*;cases z:av7 M9 _ (a.map ml)with
 |false=>rfl
 |true=>let:=(av9 M9).trans _ _ _ h z;rw[(av9 M9).irrefl]at this;lia
def an0(x):∀l,l.Pairwise ED->(KQ x l).Pairwise ED
 |[],_=>bhz _ _
 |y::r,h=>by
  rw[wd]at h;delta KQ;split
  .ext j;show wd.mpr ⟨λz hz=>?_,an0 x r h.2⟩;obtain rfl|hz:=df.mp ((agd x r).mem_iff.mp hz);.show anz j
   walk
  .let q:ED x y:=by simp_all[ED]
   show wd.mpr ⟨λz hz=>?_,wd.mpr h⟩;grind[a2l]
def an4:∀l,(N8 l).Pairwise ED
 |[]=>bmu
 |x::r=>an0 x _ (an4 r)
def an5(h:m.Pairwise ED)(p:m.Perm l):N8 l=m:=a2k (an4 l) h ((anx l).trans p.symm)
def an6:∀{l}{ts},KR l=aa ts->l=ts.map tD/\∀t∈ts,t≠[]
 |[],ts,h=>by cases h;decide
 |.tup d::r,ts,h=>by
  let⟨t,j,h⟩:=ay h;k_lt h;.trivial
  .let⟨q,W,rfl⟩:=bo h;let⟨e,he⟩:=an6 W;erw[e,aga j,⟨rfl,λu hu=>?_⟩];grind
def an7:∀(ts),(∀t∈ts,t≠[])->KR (ts.map tD)=aa ts
 |[],_=>rfl
 |t::ts,h=>by change((intsOf _).bind λt=>if t.isEmpty then af else(KR _).map _)=_;rw[adu,b5,an7 ts λu j=>h u (dj _ j)];walk
def a2m{ts m:ab (ab ak)}(j:∀t∈ts,t≠[])(h:m.Pairwise ED)(p:m.Perm ts):FE [.lst (ts.map tD)]=aa (.lst (m.map tD)):=by change(KR _).map _=_;grind[an7,an5]
section
variable{X:Cx}{cls:Str->Addr}
inductive Ea{α β:Type}(R:α->β->Prop):ab α->ab β->Prop
 |nil:Ea R [] []
 |cons{a:α}{b:β}{as:ab α}{bs:ab β}:R a b->Ea R as bs->Ea R (a::as) (b::bs)
def Ea.perm{R}(p:W.Perm as):∀{bs:ab β},Ea R as bs->∃j,j.Perm bs/\Ea R W j:=by
 replace p:=p.symm;induction p with
 |nil=>grind[av8]
 |cons x p ih=>
  intro bs h;cases h with
  |cons r t=>show au (ih t) λj h1 h2=>⟨_::j,h1.cons _,.cons r h2⟩
 |swap x y l=>
  intro bs h;cases h with
  |cons r t=>
   cases t with
   |cons r2 t=>show⟨_,bhy _ _ _,.cons r2 (.cons r t)⟩
 |trans p q ih1 ih2=>intro bs h;let⟨bs1,h1,h2⟩:=ih1 h;show au (ih2 h2) λbs2 h3 h4=>ap bs2 (h3.trans h1) h4
def Ea.get{R}{bs}{i:ai}(h:Ea R as bs)(e:bs[i]?=aa b):∃a,as[i]?=aa a/\R a b:=by
 induction h generalizing i with
 |nil=>show nn e
 |cons r _ I=>cases i<;>walk
def Ea.length{R}(h:Ea R as bs):as.length=bs.length:=by induction h<;>walk
def KS(K:ba)(cls:Str->Addr)(j:Hp)(u:a6)(t:ab ak):Prop:=∃a,u=.ref a/\Dr K cls j (.ref a) (tD t)
def an8{K}:∀{xs}{us}{ts},AJ K cls W xs (ts.map tD)->Vals xs us->Ea (KS K cls W) us ts
 |_,_,[],h,r=>by cases h;cases r;show .nil
 |_,_,t::ts,h,r=>by
  show b7 h λ_ _ j h1 h2=>?_;clear h;subst j;cases r with
  |cons r1 r2=>show .cons (b7 h1 λ_ _ q g1 g2=>?_) (an8 h2 r2);subst q;cases r1;show ap _ rfl (.tup g1 g2)
def a2n{K}{us}{ts}(h:Ea (KS K cls j) us ts):∃xs,AJ K cls j xs (ts.map tD)/\Vals xs us:=by
 induction h with
 |nil=>show⟨[],.nil,.nil⟩
 |cons h _ i=>let⟨a,rfl,d⟩:=h;let⟨xs,h1,h2⟩:=i;show⟨.ref a::xs,.cons d h1,.cons rfl h2⟩
def a2o{K}:∀{t:ab ak}{xs}{us}{i},AJ K cls q xs (t.map D.int)->Vals xs us->bh0 (λW=>ag) i us=aa (t.map ml):=by
 intro t;induction t with
 |nil=>intro _ _ _ h r;cases h;cases r;rfl
 |cons n t I=>
  intro _ _ i h r;show b7 h λ_ _ j h1 h2=>?_;clear h;subst j;cases h1;cases r with
  |cons r1 r2=>let⟨tk,rfl⟩:=r1;change(if(ag)=ae then af else(bh0 _ _ _).map _)=_;rw[ao gy,I h2 r2];rfl
def an9(I:Inv X pins σ H s)(h:KS X.K cls H u t)(hn:t≠[]):awa s.heap (λq=>ag) u=aa (t.map ml)/\∃f,bmv s.heap (λq=>ag) u f:=by
 show QY λw=>?_;let⟨a,rfl,d⟩:=h;show b7 d λ_ _ W g1 g2=>?_;cases W;show bz (I.tuple g1) λits r j _=>j7 j λo ho hc m hd=>?_;let hk:bh1 s.heap (.ref a)=true:=by delta bh1;walk
 apply w.f;show⟨?_,?_⟩;.delta awa;grind[bmw,a2o]
 .clear g1 w;cases t with
  |nil=>grind
  |cons n t=>
   let⟨_,_,rfl,h1,h2⟩:=g2;cases h1;cases r with
   |cons r1 r2=>let⟨tk,rfl⟩:=r1;show⟨_,a,o,_,m,rfl,ho,hc,hd,rfl,λq=>(m9 n tk rfl),λz=>yT⟩
def a2p:B4 X (.builtin "sorted") (l8 X.K cls FE):=by
 show λpins s σ H xs us Q I r y0=>QY λw=>?_;let⟨O,ds,d,hO,hd,hf,a⟩:=y0;delta FE at hf;k_lt hf
 .let⟨v,rfl,h⟩:=one hd;clear hd;let⟨ts,ht,rfl⟩:=bo hf;let⟨e,W⟩:=an6 ht;subst e;show b7 h λ_ _ zq36_1 h1 h2=>?_;subst zq36_1;let⟨u,rfl,ru⟩:=r.one;cases ru;show bz (I.list (AR.of (cq _ _ _ _ h1))) λits rv pl hz=>?_;let ea:=an8 h2 rv;apply w.f;let up:∀{u:a6}{t:ab ak},KS X.K cls (rs O H) u t->KS X.K cls H u t:=λz=>au z λa e d=>ap a e d.all;let keys:∀{us:ab a6}{ts:ab _},Ea (KS X.K cls (rs O H)) us ts->(∀t∈ts,t≠[])->(∃fs,bmx s.heap (λζ=>ag) us fs)/\∀v∈us,∃l,awa s.heap (λζ=>ag) v=aa l:=by
   intro us ts ea;induction ea with
   |nil=>intro _;show⟨⟨[],.nil⟩,λv hv=>nomatch hv⟩
   |cons h t ih=>
    intro W;let⟨⟨fs,k1⟩,k2⟩:=ih λt ht=>W t (dj _ ht);let⟨g1,f,g2⟩:=an9 I (up h) (W _ (d7 ..));show⟨⟨f::fs,.cons g2 k1⟩,λv hv=>?_⟩;obtain rfl|hv:=df.mp hv;.show⟨_,g1⟩
    .show k2 v hv
  let⟨⟨fs,k1⟩,k2⟩:=keys ea W;let hlen:=rv.length;show G.sorted_tups pl.isList k1 k2 (by erw[<-hlen,hz]) λst' hp hs ζ=>?_;let hpair:∀p∈(bh2 st').toList,p.1=p.2:=λp hpm=>by let:=hp.toList.mem_iff.mp hpm;rw[bh3]at this;show(mem_zip_self this).1
  let q:=by let:=hp.toList.map (·.2);rw[bh3,(List.map_snd_zip (b8 _))]at this;show this
  show au (Ea.perm q ea) λts' p1 ea'=>?_;let hl2:=by let:=ea'.length;rw[bt]at this;show this
  let srt:ts'.Pairwise ED:=by
   show List.pairwise_iff_getElem.mpr λi j hi hj hij=>?_;let KKi:∀k hk,KK (G.tupKindC s.heap λζ=>ag) (bh2 st') k=ts'[k].map ml:=λk hk=>by show au (ea'.get (gz hk)) λu hu tv=>?_;rw[i9]at hu;let⟨p,hp1,hp2⟩:=bo hu;let e1:=hpair p (QL hp1);delta KK;grind[an9,ZW]
   let hj2:j<(pairsOf its).size:=by rw[pairsOf_size];let:=q.length_eq;rw[bt]at this;lia
   let:=hs i j (sg hij) hj2;rw[KKi i hi,KKi j hj]at this;delta ED;erw[<-aa1,this]
  rw[an5 srt p1]at a;show au (a2n ea') λys d1 d2=>?_;let⟨ep,he'⟩:=bmy s.heap its _;show⟨.ref _,upd H _ (.lst ys),I.laid (λζ ζ=>bmz) (UT _) (rh ?_ _ ep d2 ?_),rfl,a.lst hO (I.bu.fresh (UT s.heap.objs.size)) d1⟩;.erw[d2.length,q.length_eq,<-hlen,hz]
  .rw[he',<-Array.toList_map]
 .show nn hf
end
abbrev CI:=ah Key
section
variable{B:de}{w:c9}
def HY(B:de)(w:c9)(h:Heap):CI->a6->Prop
 |some k,v=>D4 k v=ae
 |none,v=>∃b,v=.ref b/\awb (B8 B w) h [] b
inductive Cells(B:de)(w:c9)(h:Heap):ab CI->ab a6->Prop
 |nil:Cells B w h [] []
 |cons{c:CI}{v:a6}{cs:ab CI}{vs:ab a6}:HY B w h c v->Cells B w h cs vs->Cells B w h (c::cs) (v::vs)
def D5(B:de)(w:c9)(h:Heap)(cs:ab CI)(a:Addr):Prop:=∃o j n,h.get? a=aa o/\o.cls=.type "tuple"/\o.data=.seq j n/\Cells B w h cs j.toList
def a2q(q:HY B w h x v)(W:HY B w h y v):x=y:=by
 cases x with
 |none=>
  let⟨b,rfl,_⟩:=q;cases y with
  |none=>rfl
  |some k=>show cj W (by cases k<;>simp[HY,D4,Y1,Y2])
 |some k=>
  cases y with
  |none=>let⟨b,rfl,_⟩:=W;show cj q (by cases k<;>simp[HY,D4,Y1,Y2])
  |some j=>rw[(B8 B w).inj _ _ _ q W]
def Cells.inj(j:Cells B w h xs vs):∀{ys},Cells B w h ys vs->xs=ys:=by
 induction j with
 |nil=>intro ys h;cases h;rfl
 |cons a b q=>
  intro ys h;cases h with
  |cons c d=>grind[a2q]
def D5.inj(W:D5 B w h xs a)(hy:D5 B w h ys a):xs=ys:=by show fh W λo its n e1 _ e2 c1=>fh hy λo' jts m j _ q c2=>?_;rw[e1]at j;injection j with j;subst j;rw[e2]at q;injection q with q;subst q;show c1.inj c2
def D5.type{s:cu}(x:D5 B w s.heap cs a):s.TypeIs (.ref a) "tuple":=kj x λo _ _ e c _=>ap o e c
def Cells.keep(ho:h.get? d=aa o)(hd:o.data=.dict es W)(j:JM d h h')(x:Cells B w h cs vs):Cells B w h' cs vs:=by
 induction x with
 |nil=>show .nil
 |@cons c v cs vs a b q=>
  show .cons ?_ q;cases c with
  |some k=>show a
  |none=>show au a λb e t=>ap b e (t.keeps ho hd j)
def D5.keep(x:D5 B w h cs a)(ho:h.get? d=aa o)(hd:o.data=.dict es ep)(W:JM d h h'):D5 B w h' cs a:=by show fh x λq j n e1 e2 e3 c=>o7 q j n ((W.2 a λz=>?_).trans e1) e2 e3 (c.keep ho hd W);lia
def WU(B:de)(w:c9):CI->ak
 |some k=>(B8 B w).hash k
 |none=>tupleKeyHash (B8 B w) []
def RS(B:de)(w:c9)(cs:ab CI):Int:=reduceHash (bm0 (cs.map (WU B w)))
section
variable{A:jg}{E:a6->cu->Prop}{s:cu}
def a2r{Q}(j:A.units<jj)(h:HY B w s.heap c v)(q:Q (WU B w c) {s with toks:=s.toks+1}):ax (az B w) A (MG v) Q E s:=by
 cases c with
 |some k=>show(B8 B w).pyHash h q
 |none=>let⟨b,rfl,t⟩:=h;show wpAny_pyHash_tuple j t q
def a2s{Q}(hu:A.units+1<jj)(hk:D5 B w s.heap cs a)(q:Q (RS B w cs) {s with toks:=s.toks+(cs.length+1)}):ax (az B w) A (MG (.ref a)) Q E s:=by
 let hT:=hk.type;show fh hk λo its n e1 _ e2 c=>?_;clear hk;show aq (wpAny_cRoomFor_or (.inr (ZX hu)) (aq (U4 hT ZY.lookup (aq (U4 hT ZY.lookup (aq (wpAny_callSpecialIfBoundUnlessNone?_slot hT ZY (sj ZY hT F.entry_tuple_hash ?_ (F.args_tuple_hash_1 _)))))))));change ax _ A.in1 (bgx _>>=_) _ _ s;show aq (awc e1 e2 (aq ?_));erw[<-bh4,wpAny_forIn_list _ (λleft acc t=>∃dn tl,cs=dn++tl/\Cells B w s.heap tl left/\acc.toList=dn.map (WU B w)/\t={s with toks:=s.toks+dn.length}) _ ?_ ?_ _ _ (ic [] cs rfl c rfl rfl)];.show λx left acc t y0=>fg y0 λdn tl j hc ha W=>?_;clear y0;subst j;subst W;cases hc with
  |@cons c0 _ tl' _ h1 h2=>show aq (a2r (hu) h1 (b4 (ic (dn++[c0]) tl' yS h2 (by simp[ha]) (by simp[awd]))))
 .show λacc t y0=>QY λz=>?_;let⟨dn,tl,rfl,hc,ha,rfl⟩:=y0;cases hc;rw[ip]at q;apply z.f;change ax _ _ (retInt _) _ _ _;erw[ha,wpAny_ret_mkInt ?_];change ax _ _ (if(decide _&&decide _)=ae then _ else _) Q E _;unfold RS reduceHash at q;split;.ext hr;rw[aj hr]at q;show b4 (by simpa[awd]using q)
  .ext hr;rw[ao hr]at q;show aq (NA (b4 (by simpa[awd]using q)))
def aby(t:awb (B8 B w) h [] b):h.IsTuple b #[]:=by
 show fh t λo j n q W e3 c=>lx o q W n ?_;let:j=#[]:=by
  let l:j.toList=[]:=by cases h:j.toList with
   |nil=>rfl
   |cons x r=>simp[h]at c;trivial
  walk
 lia
def a2t{u v}{Q}(W:A.units<jj)(hx:HY B w s.heap x u)(hy:HY B w s.heap y v)(q:Q (decide (x=y)) s):ax (az B w) A (UH u v) Q E s:=by
 cases x with
 |some k=>
  cases y with
  |some j=>show(B8 B w).eqBool (a:=k) (b:=j) hx hy ?_;let:decide ((aa k:CI)=aa j)=decide (k=j):=yS;erw[<-this,q]
  |none=>
   let⟨b,rfl,t⟩:=hy;obtain⟨i,tk,_,rfl⟩|⟨i,tk,_,rfl⟩:=o8 hx;.show bho _ _ (aby t) W B w E Q q
   .show bhp _ _ (aby t) W B w E Q q
 |none=>
  let⟨b,rfl,t⟩:=hx;cases y with
  |none=>let⟨c,rfl,t2⟩:=hy;show wpAny_eqBool_tuple W t t2 q
  |some j=>
   obtain⟨i,tk,_,rfl⟩|⟨i,tk,_,rfl⟩:=o8 hy;.show bhr _ _ (aby t) W B w E Q q
   .show bhq _ _ (aby t) W B w E Q q
def a2u{a b}{P}(hu:A.units<jj)(hx:D5 B w s.heap xs a)(hy:D5 B w s.heap ys b)(q:P (.done (.ret (.bool (decide (xs=ys))))) s):
 ax (az B w) A (Builtin.«tuple.__eq__» ⟨[.ref a,.ref b],[]⟩) P E s:=by
 let hT:=hy.type;show QY λz=>fh hx λo1 us n1 a1 _ a3 ca=>?_;show fh hy λo2 vs n2 b1 _ b3 cb=>?_;apply z.f;change ax _ _ (isInstance _ _>>=_) _ _ s;show aq (U6 hT awe (aq (awc a1 a3 (aq (awc b1 b3 (aq (wpAny_forIn_list _ (λleft r t=>r.1=af/\t=s/\∃p q ps qs,left=awf ps qs/\Cells B w s.heap p ps/\Cells B w s.heap q qs/\decide (p=q)=decide _/\(ps.length==qs.length)=(us.size==vs.size)) _ ?_ ?_ _ _ ⟨rfl,rfl,xs,ys,us.toList,vs.toList,rfl,ca,cb,rfl,by rfl⟩)))))));.show λzq23_1 left r t j=>d9 j λhr zq23_3 W=>nh W λp q' ps qs hz hp hq hd hl=>?_;clear j W;subst zq23_3;cases hp with
  |nil=>trivial
  |@cons c1 u1 p1 ps1 g1 t1=>
   cases hq with
   |nil=>trivial
   |@cons c2 u2 p2 ps2 g2 t2=>
    let⟨⟨rfl,rfl⟩,rfl⟩:=hz;show aq (a2t hu g1 g2 ?_);by_cases hc:c1=c2;.subst hc;erw[gm rfl,b4 ⟨rfl,rfl,p1,p2,ps1,ps2,rfl,t1,t2,?_,by simpa using hl⟩];rw[<-hd];by_cases hpq:p1=p2<;>simp[hpq]
    .rw[gi hc];let hf:decide (xs=ys)=false:=by rw[<-hd];simp[hc]
     rw[hf]at q;show aq (b4 (b4 (b4 q)))
 .rintro⟨r1,r2⟩t⟨hr,rfl,p,q',ps,qs,hz,hp,hq,hd,hl⟩;subst hr;show b4 ?_;let fin:(us.size==vs.size)=decide (xs=ys):=by
   rw[<-hd,<-hl];cases hp with
   |nil=>cases hq<;>simp
   |cons _ _=>cases hq<;>walk
  change P (.done (.ret (.bool (us.size==vs.size)))) t;erw[fin,q]
def age{a b}{Q}(hu:A.units+1<jj)(hx:D5 B w s.heap xs a)(hy:D5 B w s.heap ys b)(q:Q (decide (xs=ys)) s):ax (az B w) A (UH (.ref a) (.ref b)) Q E s:=by
 show QM ?_;by_cases hab:(ko a==ko b)=ae;.rw[aj hab];let e:a=b:=yL;subst e;let:=hx.inj hy;grind[aq,NA,b4]
 .erw[ao hab,aq (wpAny_richCompare_same_room hx.type hy.type ZZ (sj ZZ hx.type F.entry_tuple_eq (a2u (hu) hx hy (et _ rfl (λz=>nomatch z) (ul q))) (F.args_tuple_eq_2 _ _)) (ZX hu))]
def a2v{Q}(t:awb (B8 B w) s.heap [] b)(q:Q ae s):ax (az B w) A (U7 (n+1) (.ref b)) Q E s:=by let j:=t.typeIs;show j7 (aby t) λo W _ m e3=>?_;delta U7;show aq (U4 j ZZ.lookup (aq (U6 j awe (aq (we W e3 (aq ?_))))));grind[b4]
def a2w{Q}(hk:D5 B w s.heap cs a)(q:Q ae s):ax (az B w) A (U7 8 (.ref a)) Q E s:=by
 let j:=hk.type;show fh hk λo its n e1 _ e3 c=>?_;delta U7;show aq (U4 j ZZ.lookup (aq (U6 j awe (aq (we e1 e3 (aq ?_))))));erw[<-bh4,wpAny_forIn_list _ (λleft r t=>r.1=af/\t=s/\∃ps,Cells B w s.heap ps left) _ ?_ ?_ _ _ ⟨rfl,rfl,cs,c⟩];.clear c e1 j;rintro v left r t⟨hr,rfl,ps,hc⟩;cases hc with
  |@cons c0 _ W _ g1 t1=>
   let go:ax (az B w) A (U7 7 v) (λb t'=>b=ae/\t'=t) E t:=by
    cases c0 with
    |some k=>erw[eqIsQuiet_byValue _ ((B8 B w).byValue _ _ g1),b4 ⟨rfl,rfl⟩]
    |none=>let⟨b,rfl,tt⟩:=g1;show a2v tt ⟨rfl,rfl⟩
   show aq (mm go (λb t' hb=>?_) λζ ζ z=>z);let⟨rfl,rfl⟩:=hb;show b4 ⟨rfl,rfl,W,t1⟩
 grind[b4]
end
def HZ(B:de)(w:c9):HeapKind B w (ab CI)where
 is:=D5 B w
 hash:=RS B w
 draws:=λcs=>cs.length+1
 room:=λA=>A.units+1<jj
 inj:=λx y=>x.inj y
 keeps:=λx a b c=>x.keep a b c
 pyHash:=λhu hk q=>a2s hu hk q
 eqBool:=λhu x y q=>age hu x y q
 quiet:=λhk q=>a2w hk q
end
abbrev k8:=ab CI×Addr×V
def F2:ab k8->ab (ab CI×Addr×a6)->Prop:=Paired λp q=>p.1=q.1/\p.2.1=q.2.1/\RelV p.2.2 q.2.2
def BY(P:de)(w:c9)(a:Addr)(es:ab k8):HO:=.ext λh=>(a==sf)=ag/\es.length<=aw/\∃o j q xs,h.get? a=aa o/\o.ExactDict/\o.data=.dict j q/\j.toList=xs.map (awg (HZ P w))/\F2 es xs/\(es.map (·.1)).Nodup
def D6:CI->D
 |some (.inl i)=>.int i
 |some (.inr x)=>.str x
 |none=>.tup []
def IS:ab D->ah (ab CI)
 |[]=>aa []
 |.int i::r=>(IS r).map (aa (.inl i)::.)
 |.str x::r=>(IS r).map (aa (.inr x)::.)
 |.tup []::r=>(IS r).map (af::.)
 |_::_=>af
def adw:∀{l}{cs},IS l=aa cs->l=cs.map D6
 |[],cs,h=>by cases h;rfl
 |.int i::r,cs,h=>by let⟨q,j,rfl⟩:=bo h;rw[adw j];rfl
 |.str x::r,cs,h=>by let⟨q,j,rfl⟩:=bo h;rw[adw j];rfl
 |.tup []::r,cs,h=>by let⟨q,j,rfl⟩:=bo h;rw[adw j];rfl
 |.bj::r,cs,h=>yT
 |.bl _::r,cs,h=>yT
 |.ty _::r,cs,h=>yT
 |.tup (_::_)::r,cs,h=>yT
 |.lst _::r,cs,h=>yT
 |.d8 _ _::r,cs,h=>yT
 |.obj _ _ _::r,cs,h=>yT
section
variable{X:Cx}{cls:Str->Addr}{pins:ab (Addr×Obj)}{C:L2.St}{H:Hp}{s:cu}{A:jg}{E:a6->cu->Prop}
section
variable(I:Inv X pins C H s)
include I
def a2x:∀{cs}{xs}{us},AJ X.K cls H xs (cs.map D6)->Vals xs us->Cells X.prog X.w s.heap cs us:=by
 intro cs;induction cs with
 |nil=>intro _ _ h r;cases h;cases r;show .nil
 |cons c cs ih=>
  intro _ _ h r;show b7 h λ_ _ j h1 h2=>?_;clear h;subst j;cases r with
  |cons r1 r2=>
   show .cons ?_ (ih h2 r2);cases c with
   |some k=>
    cases k with
    |inl i=>cases h1;let⟨t,rfl⟩:=r1;show afd i t
    |inr x=>cases h1;let⟨t,rfl⟩:=r1;show afe x t
   |none=>show b7 h1 λ_ _ q g1 g2=>?_;subst q;cases g2;cases r1;show bz (I.tuple g1) λits r W _=>j7 W λo ho hc n hd=>?_;cases r;show⟨_,rfl,o,_,n,ho,hc,hd,.nil⟩
def adx(h:Dr X.K cls H (.ref b) (.tup (cs.map D6))):D5 X.prog X.w s.heap cs b:=by show QY λz=>b7 h λ_ _ q g1 g2=>?_;cases q;show bz (I.tuple g1) λW r j _=>j7 j λo ho hc n hd=>?_;apply z.f;show⟨o,_,n,ho,hc,hd,by grind[a2x]⟩
def agf(h:H a=aa (BY X.prog X.w a es))(hk:∀e∈es,Dr X.K cls H (.ref e.2.1) (.tup (e.1.map D6))):
 (a==sf)=ag/\es.length<=aw/\∃xs,F2 es xs/\s.heap.DictOfH (HZ X.prog X.w) a xs/\(es.map (·.1)).Nodup:=by
 show QY λz=>d9 (I.bu a _ h) λj _ _=>d9 j λh1 h2 W=>nh W λo ar ep xs k1 k2 k3 k4 zq9_3=>xA zq9_3 λk5 k6=>?_;apply z.f;show⟨h1,h2,xs,k5,⟨o,ar,ep,k1,k2,k3,k4,?_,?_⟩,k6⟩
 .let:∀{es:ab k8}{xs:ab _},F2 es xs->(∀e∈es,Dr X.K cls H (.ref e.2.1) (.tup (e.1.map D6)))->∀x∈xs,(HZ X.prog X.w).is s.heap x.1 x.2.1:=by
   intro es xs r;induction r with
   |nil=>intro _ x hx;trivial
   |cons q t ih=>
    intro hk x hx;obtain rfl|hx:=df.mp hx;.erw[<-q.1,<-q.2.1,adx I (hk _ (d7 ..))]
    .show ih (λe he=>hk e (dj _ he)) x hx
  show this k5 hk
 .let:∀{es:ab k8}{xs:ab _},F2 es xs->es.map (·.1)=xs.map (·.1):=by
   intro es xs r;induction r with
   |nil=>rfl
   |cons q t ih=>grind
  erw[<-this k5,k6]
end
def B1(es:ab k8)(k:ab CI):ah k8:=es.find? λe=>decide (e.1=k)
noncomputable def put3(es:ab k8)(k:ab CI)(b:Addr)(v:V):ab k8:=if(B1 es k).isSome then es.map (λe=>if e.1=k then(e.1,e.2.1,v)else e)else es++[(k,b,v)]
def abz(r:F2 es xs)(k):(∀e,B1 es k=aa e->∃u,atKey xs k=aa (e.2.1,u)/\RelV e.2.2 u)/\(B1 es k=af->atKey xs k=af):=by
 induction r with
 |nil=>show⟨(λe h=>yT),λW=>rfl⟩
 |@cons p q es xs h t j=>unfold B1 atKey at j⊢;rw[awh,awh,h.1];cases decide (q.1=k);all_goals grind
def a2y(r:F2 es xs)(k)(b)(W:RelV v u):F2 (put3 es k b v) (storedH xs k b u):=by
 let⟨h1,h2⟩:=abz r k;cases e:B1 es k with
 |none=>rw[storedH_new (h2 e)];delta put3;erw[e,avu r ⟨rfl,rfl,W⟩]
 |some x=>
  show au (h1 x e) λu' j _=>?_;rw[storedH_old j];delta put3;rw[e];clear h1 h2 e j;induction r with
  |nil=>show .nil
  |@cons p q es xs h t ih=>show .cons ?_ ih;delta putAt;lia
def a2z(es)(k)(b)(v):(put3 es k b v).map (·.1)=if(B1 es k).isSome then es.map (·.1)else es.map (·.1)++[k]:=by
 delta put3;cases B1 es k;.simp
 .change wg _ (wg _ _)=_;erw[el,jw λa j=>by grind]
def ady(h:(es.map (·.1)).Nodup):((put3 es k b v).map (·.1)).Nodup:=by
 rw[a2z];cases z:B1 es k with
 |some _=>show h
 |none=>show J0.mpr ⟨h,bhz _ _,λa ha c hc e=>?_⟩;cases fq.mp hc;let⟨x,j,rfl⟩:=gx.mp ha;grind[cj,B1]
def a20(es)(k)(b)(v):(put3 es k b v).length<=es.length+1:=by delta put3;grind
def agg(hs:(a==sf)=ag)(hl:es.length<=aw)(r:F2 es xs)(dd:h'.DictOfH (HZ P w) a xs)(nd:(es.map (·.1)).Nodup):CB P w H' h' a (BY P w a es):=fh dd λo ar ep k1 k2 k3 j=>d9 j λk4 _ _=>⟨⟨hs,hl,o,ar,ep,xs,k1,k2,k3,k4,r,nd⟩,⟨o,k1⟩,λh1 h2 q st=>d9 q λa1 a2 W=>iy W λo ar zq16_2=>jd zq16_2 λep xs k r=>⟨a1,a2,o,ar,ep,xs,st _ k,r⟩⟩
section
variable(G:A.units+2<jj)(I:Inv X pins C H s)
include G I
def a21{a b}{es}{k}(h:H a=aa (BY X.prog X.w a es))(W:∀e∈es,Dr X.K cls H (.ref e.2.1) (.tup (e.1.map D6)))(hb:Dr X.K cls H (.ref b) (.tup (k.map D6))){Q}
 (q:∀s',Inv X pins C H s'->Q (.bool (!(B1 es k).isSome)) s'):ax (az X.prog X.w) A (ia .NotIn (.ref b) (.ref a)) Q E s:=by
 show j5 (agf I h W) λh1 h2 xs r j=>xA j λdd _=>wpAny_notIn_heap (G) (adx I hb) h1 dd ?_;let:(atKey xs k).isSome=(B1 es k).isSome:=by let⟨g1,g2⟩:=abz r k;cases e:B1 es k<;>grind
 erw[this,q _ (I.tok _)]
def a22{a b}{es}{k}{v}{u}(h:H a=aa (BY X.prog X.w a es))(hk:∀e∈es,Dr X.K cls H (.ref e.2.1) (.tup (e.1.map D6)))(hb:Dr X.K cls H (.ref b) (.tup (k.map D6)))(hz:es.length<aw)(rv:RelV v u){Q}
 (q:∀s',Inv X pins C (upd H a (BY X.prog X.w a (put3 es k b v))) s'->Q () s'):ax (az X.prog X.w) A (Y5 (.ref a) (.ref b) u) Q E s:=by show j5 (agf I h hk) λh1 h2 xs r j=>xA j λdd nd=>wpAny_setItem_heap (hsz:=(by rw[<-UJ r];omega)) (G) (adx I hb) dd λh' W hs=>q _ (adl I (by erw[h,lp]) hs (j8 W λq _ _ hq _=>⟨q,hq⟩) (agg h1 (by grind[a20]) (a2y r k b rv) W (ady nd)))
def a23(h:H a=aa (BY X.prog X.w a es))(hk:∀e∈es,Dr X.K cls H (.ref e.2.1) (.tup (e.1.map D6)))(hb:Dr X.K cls H (.ref b) (.tup (k.map D6)))(hz:es.length<aw)(rv:RelV v u)
 (qy:∀e s' r,B1 es k=aa e->Inv X pins C H s'->RelV e.2.2 r->Q r s')(qn:∀s',B1 es k=af->Inv X pins C (upd H a (BY X.prog X.w a (es++[(k,b,v)]))) s'->Q u s'):ax (az X.prog X.w) A (call (.builtin "dict.setdefault") [.ref a,.ref b,u]) Q E s:=by
 show j5 (agf I h hk) λh1 h2 xs r zq28_1=>xA zq28_1 λdd nd=>?_;let hT:=dd.typeIs;let W:=adx I hb;let hlx:xs.length<=sizeLine:=by erw[<-UJ r,h2]
 show QY λzz=>fh (id dd) λo ar ep k1 k2 k3 zq27_1=>d9 zq27_1 λk4 k5 k6=>?_;apply zz.f;show sj bh5 hT F.entry_dict_setdefault (aq (aq (bh6 hT (aq (b4 (aq (b4 (aq (b4 (b4 ?_)))))))))) (F.args_dict_setdefault_3 _ _ _);change ax _ A.in1 (do if(a==sf)=ae then _ else pure PUnit.unit;_) _ _ s;rw[h1];delta dictSetDefault;show aq (QM (aq ((HZ X.prog X.w).pyHash (G) W ?_)));let tk:=λn=>I.tok n;show aq (wpAny_dictFind_heap (G) W k1 k3 k4 k5 k6 ?_ ?_)
 .intro hno;let hat:B1 es k=none:=by
   cases e:B1 es k with
   |none=>rfl
   |some x=>show au ((abz r k).1 x e) λu' g _=>?_;rw[atKey_none_of_get hno]at g;show nn g
  let hdd:(s.heap.update a (Obj.mapDictKeys (·.push ⟨RS X.prog X.w k,.ref b,u⟩))).DictOfH (HZ X.prog X.w) a (xs++[(k,b,u)]):=by
   show⟨_,_,ep+1,ZH _ k1 (Obj.isFreed_of_dict (bh7 k3 _)),k2.mapDictKeys _,bh7 k3 _,?_,λx hx=>?_,?_⟩;.rw[Array.toList_push,k4,fe];rfl
   .obtain hx|hx:=sh.mp hx;.show(k5 x hx).keep k1 k3 (NC ..)
    .erw[fq.mp hx,W.keep k1 k3 (NC ..)]
   .erw[fe,J0.mpr ⟨k6,gd.mpr ⟨qo,ol⟩,λc hc c' hc'=>?_⟩];let:c'=k:=fq.mp hc';subst this;show λz=>not_mem_keys_of_get hno (by erw[<-z,hc])
  show aq (NA (aq (wpAny_updateDictKeys (hz:=by let e:=bh8 k4;lia) k1 k3 (b4 (b4 ⟨_,rfl,qn _ hat (adl (tk _) (by erw[h,lp]) (NC ..) (j8 hdd λq _ _ hq _=>⟨q,hq⟩) (agg h1 (by erw[e9,hz]) (avu r ⟨rfl,rfl,rv⟩) hdd ?_))⟩)))));let:=ady (k:=k) (b:=b) (v:=v) nd;delta put3 at this;rw[hat]at this;show this
 .show λj p hj=>aq (Z0 k1 k3 ?_);rw[entry_at k4 j,hj];cases e:B1 es k with
  |none=>let:=(abz r k).2 e;rw[bh9 k6 hj]at this;cases this
  |some x=>show au ((abz r k).1 x e) λu' g1 g2=>?_;rw[bh9 k6 hj]at g1;clear hj;cases g1;show aq (NA (b4 (b4 ⟨_,rfl,qy x _ _ e (tk _) g2⟩)))
end
section
variable{B:de}{w:c9}
def a24{ar}{en}{Q}(hit:s.heap.IsValIter it d i n ep)(h1:s.heap.get? d=aa od)(h2:od.data=.dict ar ep)(h3:ar.size=n)(h4:ar[i]?=aa en)
 (q:∀h',h'.IsValIter it d (i+1) n ep->JM it s.heap h'->Q (aa en.val) {s with heap:=h'}):ax (az B w) A (qg (.ref it)) Q E s:=by
 show bz (id hit) λo ho hc hd=>?_;let hT:=hit.typeIs;delta qg;show aq (Z1 (MW hT U8 (sj U8 hT bia (aq (b4 (aq (aq (aq (Z2 hT (b4 (aq (bib ho hd ?_))))))))) (bic _))));show aq (b4 (aq (Z0 h1 h2 ?_)));erw[ao (by rw[h3];simp),aq (b4 (aq (awi h1 h2 ?_)))];erw[ao yS,b4 ?_];let⟨hlt,hen⟩:=Array.getElem?_eq_some_iff.mp h4;rwa[yg,Z3,Array.getElem?_eq_getElem hlt];show aq (aq (Z2 hT (b4 (aq (awj hT ?_)))));change ax _ _ (setField (.ref it) 1 (Z4 ((i:ak)+1))>>=_) _ _ s;show aq (Z5 ho hd yS ?_);let hit':(s.heap.update it (Obj.mapFields (·.setIfInBounds 1 (Z4 ((i:ak)+1))))).IsValIter it d (i+1) n ep:=by show et _ (ZH _ ho (bid (Z6 hd _))) ((bie ..).trans hc) ?_;rw[Z6 hd];rfl
 generalize hh:s.heap.update it _=h' at hit';let hT':=bm1 (s:={s with heap:=h'}) hit';show aq (QM (aq (awj hT' (aq (awj hT' ?_)))));erw[hen,b4 (b4 (ap _ rfl (b4 (q _ hit' (by subst hh;show NC ..)))))]
def a25{ar}{Q}(hh:A.handled=af)(hit:s.heap.IsValIter it d i n ep)(h1:s.heap.get? d=aa od)(h2:od.data=.dict ar ep)(h3:ar.size=n)(h4:n<=i)
 (q:∀h',Z7 it s.heap h'->Q af {s with heap:=h'}):ax (az B w) A (qg (.ref it)) Q E s:=by
 show bz (id hit) λo ho hc hd=>?_;let hT:=hit.typeIs;delta qg;show aq (Z1 (MW hT U8 (sj U8 hT bia (aq (b4 (aq (aq (aq (Z2 hT (b4 (aq (bib ho hd ?_))))))))) (bic _))));show aq (b4 (aq (Z0 h1 h2 ?_)));erw[ao (by rw[h3];simp),aq (b4 (aq (awi h1 h2 ?_)))];erw[ao yS,b4 ?_];let hge:ar.size<=i:=by erw[h3,h4]
 rwa[show¬((i:ak)<0)from yL,yg,Z3,bhb hge];show aq (aq (Z2 hT (b4 ?_)));change ax _ _ (setField (.ref it) 0 .none>>=_) _ _ s;show aq (Z5 ho hd yS (aq ?_));show aq (m:=firstArgMember _ _) (wpAny_of_eq (a:=QC) (rfl) (MX ?_ (by size_fits)));erw[raiseNew,aq (bih ?_)];erw[hh,aq (b4 (wpAny_throw ?_))];show aq (U6 (T:="StopIteration") (b:=ae) (ap _ (f7 _ rfl) rfl) bii (b4 (q _ (((NC ..).extBut.push _).push _))))
end
end
abbrev En:=ab (ah D)
structure dh where
 x:Str
 c:Str
 ns:ab Str
 l:ab D
structure Ctx where
 N:ab Str
 cls:Str->Addr
 k:ai
 fields:ab (Str×Str)
 eg:Str->ah (ab D->ah D)
 gq:Str->ah D
 fi:ab dh:=[]
 ad:Str->Addr:=λζ=>0
 pw:ah (de×c9):=af
def GH(sc:cz)(x:Str):Bool:=match sc.names.lookup x with
 |some .local=>ae
 |some .cell=>ae
 |some .free=>ae
 |_=>ag
def C1(sc:cz)(x:Str):Bool:=match sc.names.lookup x with
 |some .local=>ae
 |some .cell=>ae
 |_=>ag
def EO(sc:cz)(x:Str):Bool:=match sc.names.lookup x with
 |some .globalImplicit=>ae
 |_=>ag
noncomputable def slot:ab Str->Str->ah ai
 |[],_=>af
 |y::N,x=>if y=x then aa 0 else(slot N x).map (.+1)
noncomputable def getD(η:En)(i:ai):ah D:=(η[i]?).bind id
noncomputable def notStar(e:Expr):Bool:=e.ctorIdx !=22
def WV:Expr->a4
 |.Call (.Name _ _) [] [] _=>ag
 |_=>ae
def AAK(e:Expr):Bool:=e.ctorIdx !=26
def AF(a:ah D)(b:ah (ab D)):ah (ab D):=match a,b with
 |some d,aa ds=>aa (d::ds)
 |_,_=>af
def AG(f:D->D->ah D)(a b:ah D):ah D:=match a,b with
 |some x,aa y=>f x y
 |_,_=>af
def A0(a b:ah D):ah D:=match a with
 |some (.bl ae)=>b
 |some (.bl ag)=>aa (.bl ag)
 |_=>af
def A7(a b:ah D):ah D:=match a with
 |some (.bl ag)=>b
 |some (.bl ae)=>aa (.bl ae)
 |_=>af
def BA(a:ah D):ah D:=match a with
 |some (.bl b)=>aa (.bl (!b))
 |_=>af
def AI{j:Type}(c:ah D)(a b:ah j):ah j:=match c with
 |some (.bl ae)=>a
 |some (.bl ag)=>b
 |_=>af
def RT:ah (ah D)->ah (ah ak)
 |none=>aa af
 |some (aa (.int i))=>aa (aa i)
 |_=>af
def BZ(a:ah D)(lo hi:ah (ah D)):ah D:=match a,RT lo,RT hi with
 |some d,aa l,aa h=>IR d l h
 |_,_,_=>af
noncomputable def vI:(a:ah D)->ah {i//a=aa (.int i)}
 |some (.int x)=>aa ⟨x,rfl⟩
 |_=>af
def KU(f g:ak->ak->a4)(a b c:ah D):ah D:=(vI a).bind λx=>(vI b).bind λy=>(vI c).bind λz=>aa (.bl (f x.1 y.1&&g y.1 z.1))
def WW:=KU (λx y=>decide (x<=y)) λx y=>decide (x<=y)
def WX:=KU (λx y=>decide (x<y)) λx y=>decide (x<y)
def WY:=KU (λx y=>decide (x<=y)) λx y=>decide (x<y)
def FF(f:Expr->ah D):ab Expr->ah (ab D)
 |[]=>aa []
 |e::es=>if notStar e then AF (f e) (FF f es)else af
def KW(f:Expr->ah D):ab Expr->ah D
 |[]=>af
 |[a]=>f a
 |a::b::r=>A0 (f a) (KW f (b::r))
def KY(f:Expr->ah D):ab Expr->ah D
 |[]=>af
 |[a]=>f a
 |a::b::r=>A7 (f a) (KY f (b::r))
noncomputable def keyOf:D->ah Key
 |.int i=>aa (.inl i)
 |.str x=>aa (.inr x)
 |_=>af
def CT:ab Key->ab D->Key->ah D
 |k::ks,d::ds,x=>if k=x then aa d else CT ks ds x
 |_,_,_=>af
def AB(a b:D):ah D:=match a with
 |.d8 ks l=>(keyOf b).bind (CT ks l)
 |_=>ixF a b
def G4:ab Str->ab D->Str->ah D
 |n::ns,d::ds,f=>if n=f then aa d else G4 ns ds f
 |_,_,_=>af
def WZ(a b:D):ah Bool:=match a,b with
 |.str ⟨⟨[c]⟩⟩,.str z=>aa (decide (c∈z.cps.toList))
 |_,_=>af
def AA(op:U9)(a b:D):ah D:=match op with
 |.Eq=>KO a b
 |.NotEq=>HU a b
 |.Lt=>ltF a b
 |.LtE=>leF a b
 |.Gt=>gtF a b
 |.GtE=>geF a b
 |.Is=>AAJ a b
 |.IsNot=>af
 |.In=>(match b with
  |.d8 ks l=>(keyOf a).map λk=>.bl (CT ks l k).isSome
  |.str _=>(WZ a b).map D.bl
  |_=>N6 a b)
 |.NotIn=>(match b with
  |.d8 ks l=>(keyOf a).map λk=>.bl (!(CT ks l k).isSome)
  |.str _=>(WZ a b).map λc=>D.bl (!c)
  |_=>WT a b)
def N9:ab D->ah D
 |[.int i]=>aa (.int (if i<0 then-i else i))
 |_=>af
def W0(x:Str):ah (ab D->ah D):=
 if x="len"then aa AM else if x="isinstance"then aa BJ else if x="all"then aa B3 else if x="any"then aa anyF
 else if x="sum"then aa sumF else if x="tuple"then aa IP else if x="int"then aa IQ
 else if x="str"then aa HX else if x="ord"then aa N7 else if x="abs"then aa N9 else if x="sorted"then aa FE else af
def AAL(x:Str):ah D:=
 if x="int"then aa (.ty "int")else if x="str"then aa (.ty "str")else if x="tuple"then aa (.ty "tuple")else af
def RU(d:D)(ds:ab D):ah D:=match d,ds with
 |.str a,[.lst l]=>(strsOf l).bind λys=>if(ys.map (·.length)).sum+ys.length*a.length<=16777216 then aa (.str (JX a ys))else af
 |_,_=>af
def W2(d:D)(ds:ab D):ah D:=match d,ds with
 |.str a,[]=>if a.length+2<=aw then aa (.lst ((JZ a).map D.str))else af
 |_,_=>af
def A6(st:D->ah (ah D)):ab D->ah (ab D)
 |[]=>aa []
 |d::l=>match st d with
  |some af=>A6 st l
  |some (aa y)=>(A6 st l).map (y::.)
  |none=>af
def IT(η:En):ab ai->En
 |[]=>η
 |v::vs=>(IT η vs).set v af
def FG(e:Expr):ah {q:Str×Pos//e=.Name q.1 q.2}:=match e with
 |.Name x p=>aa ⟨(x,p),rfl⟩
 |_=>af
noncomputable def vTg(e:Expr):ah ({q:Str×Pos//e=.Name q.1 q.2}⊕{q:Str×Pos×Str×Pos×ai×Pos//e=.Tuple [.Name q.1 q.2.1,.Name q.2.2.1 q.2.2.2.1] q.2.2.2.2.1 q.2.2.2.2.2}):=match e with
 |.Name x p=>aa (.inl ⟨(x,p),rfl⟩)
 |.Tuple [.Name x p,.Name y r] k s=>aa (.inr ⟨(x,p,y,r,k,s),rfl⟩)
 |_=>af
def ADO(d:D):ah {q:D×D//d=.tup [q.1,q.2]}:=match d with
 |.tup [a,b]=>aa ⟨(a,b),rfl⟩
 |_=>af
def W3{W:Type}(f:D->W)(N:ab Str)(sc:cz)(t:Expr)(d:D)(η:ab W):ah (ab W):=(vTg t).bind λt=>match t with
 |.inl q=>if C1 sc q.1.1 then(slot N q.1.1).map λi=>η.set i (f d)else af
 |.inr q=>(ADO d).bind λr=>if C1 sc q.1.1&&C1 sc q.1.2.2.1 then(slot N q.1.1).bind λi=>(slot N q.1.2.2.1).map λj=>(η.set i (f r.1.1)).set j (f r.1.2)else af
inductive W4{α:Type}(f:D->α)(N:ab Str)(sc:cz)(η:ab α):Expr->D->ab α->Prop
 |one{x p i d}:C1 sc x=ae->slot N x=aa i->W4 f N sc η (.Name x p) d (η.set i (f d))
 |two{x p y r k s a b i j}:C1 sc x=ae->C1 sc y=ae->slot N x=aa i->slot N y=aa j->W4 f N sc η (.Tuple [.Name x p,.Name y r] k s) (.tup [a,b]) ((η.set i (f a)).set j (f b))
def aoa(h:W3 f N sc t d η=aa q):W4 f N sc η t d q:=by
 obtain⟨t,-,h⟩:=ay h;obtain⟨_,rfl⟩|⟨_,rfl⟩:=t
 .dsimp at h;k_lt h<;>w_top h
  let⟨i,hi,rfl⟩:=bo h;show .one ‹_› hi
 .obtain⟨⟨_,rfl⟩,-,h⟩:=ay h;k_lt h<;>w_top h
  ext z;let⟨i,hi,h⟩:=ay h;let⟨j,W,rfl⟩:=bo h;rw[cg]at z;show .two z.1 z.2 hi W
def RV:ab Str->cz->Expr->D->En->ah En:=W3 aa
def G5(N:ab Str)(t:Expr):ah (ab (Str×ai)):=(vTg t).bind λt=>match t with
 |.inl q=>(slot N q.1.1).map λi=>[(q.1.1,i)]
 |.inr q=>(slot N q.1.1).bind λi=>(slot N q.1.2.2.1).map λj=>[(q.1.1,i),(q.1.2.2.1,j)]
def AAM:Expr->a4
 |.Tuple _ _ _=>ae
 |_=>ag
def CU:ab D->ab D->ab D
 |a::l,b::m=>.tup [a,b]::CU l m
 |_,_=>[]
def CM:ai->ab D->ab D
 |_,[]=>[]
 |n,a::l=>.tup [.int n,a]::CM (n+1) l
def EE(lo:ak):ai->ab D
 |0=>[]
 |n+1=>.int lo::EE (lo+1) n
def BM:D->ah (ab D)
 |.tup l=>aa l
 |.lst l=>aa l
 |.str x=>if x.cps.size<=aw then aa (x.cps.toList.map λc=>.str ⟨#[c]⟩)else af
 |_=>af
def RW(a:ah D):ah (ab D):=match a with
 |some (.int j)=>if j<=1000000/\-1000000<=j then aa (EE 0 j.toNat)else af
 |_=>af
def OA(a b:ah D):ah (ab D):=match a,b with
 |some (.int i),aa (.int j)=>if(-1000000<=i/\i<=1000000)/\j<=1000000/\-1000000<=j then aa (EE i (j-i).toNat)else af
 |_,_=>af
def IU(a:ah D):ah (ab D):=match a with
 |some (.tup l)=>aa (CM 0 l)
 |some (.lst l)=>aa (CM 0 l)
 |_=>af
def W5(a b:ah D):ah (ab D):=match a,b with
 |some (.tup l),aa (.tup m)=>aa (CU l m)
 |some (.lst l),aa (.lst m)=>aa (CU l m)
 |_,_=>af
def W6(e:Expr):ah {q:Str×Pos×ab Expr×Pos//e=.Call (.Name q.1 q.2.1) q.2.2.1 [] q.2.2.2}:=match e with
 |.Call (.Name x p) as [] c=>aa ⟨(x,p,as,c),rfl⟩
 |_=>af
def KZ(sc:cz)(f:Expr->ah D)(tg e:Expr):ah (ab D):=match W6 e with
 |some ⟨q,_⟩=>if EO sc q.1&&decide (q.1="range")then(match q.2.2.1 with
   |[a]=>if notStar a then RW (f a)else af
   |[a,b]=>if notStar a&&notStar b then OA (f a) (f b)else af
   |_=>af)
  else if EO sc q.1&&decide (q.1="enumerate")then(match q.2.2.1 with
   |[a]=>if notStar a&&AAM tg then IU (f a)else af
   |_=>af)
  else if EO sc q.1&&decide (q.1="zip")then(match q.2.2.1 with
   |[a,b]=>if notStar a&&notStar b&&AAM tg then W5 (f a) (f b)else af
   |_=>af)
  else(f e).bind BM
 |none=>(f e).bind BM
def K1(N:ab Str)(sc j:cz)(own:ab (Str×ai)):Bool:=
 decide (j.kind=.function)&&j.names.all (λy=>decide (j.names.lookup y.1=aa y.2))&&
 j.names.all (λy=>decide (y.2=.free->sc.names.lookup y.1=aa .cell\/sc.names.lookup y.1=aa .free))&&
 j.names.all (λy=>decide (y.2=.local\/y.2=.cell->y.1∈own.map (·.1)\/y.1∉N))
def IA(e:Expr):Bool:=e.ctorIdx !=7
noncomputable def tsC:ab U9->ab Expr->a4
 |[_],[_]=>ae
 |[_,_],[_,_]=>ae
 |_,_=>ag
mutual
def FH:Expr->a4
 |.Compare _ o b _=>tsC o b
 |.BoolOp _ es _=>W7 es
 |.UnaryOp .Not a _=>FH a
 |.Name _ _=>ae
 |.Call _ _ _ _=>ae
 |.Subscript _ _ _=>ae
 |.Attribute _ _ _=>ae
 |.Constant _ _ _=>ae
 |_=>ag
def W7:ab Expr->a4
 |[]=>ae
 |e::es=>FH e&&W7 es
end
def A8(fs:ab (Str×Str))(f:Str)(a:ah D):ah D:=match a with
 |some (.obj c ns l)=>if(c,f)∈fs then G4 ns l f else af
 |_=>af
def AAN(Γ:Ctx)(x:Str)(ds:ab D):ah D:=match Γ.eg x with
 |some g=>g ds
 |none=>(W0 x).bind λg=>g ds
def AAO(d:D)(ds:ab D):ah D:=match d,ds with
 |.d8 ks l,[k,x]=>(keyOf k).map λj=>(CT ks l j).getD x
 |_,_=>af
def AAP(m:Str)(d:D)(ds:ab D):ah D:=if m="join"then RU d ds else if m="split"then W2 d ds else if m="get"then AAO d ds else af
def K2(m:Str)(a:ah D)(b:ah (ab D)):ah D:=match a,b with
 |some d,aa ds=>AAP m d ds
 |_,_=>af
def W8(fs:ab (Str×Str))(sc:cz)(x f:Str):ab dh->ah D
 |[]=>af
 |m::ms=>if m.x=x then(if GH sc x&&decide (x≠"__debug__"/\x≠"__classdict__")&&decide ((m.c,f)∈fs)then G4 m.ns m.l f else af)else W8 fs sc x f ms
def AAQ(fs:ab (Str×Str))(sc:cz)(ms:ab dh)(o:Expr)(f:Str):ah D:=(FG o).bind λq=>W8 fs sc q.1.1 f ms
def W9(ms:ab dh)(own:ab (Str×ai)):Bool:=ms.all λm=>own.all λp=>decide (p.1≠m.x)
def AAR(fs:ab (Str×Str))(sc:cz)(ms:ab dh)(o:Expr)(f:Str)(r:ah D):ah D:=match AAQ fs sc ms o f with
 |some d=>aa d
 |none=>A8 fs f r
def K3(a:ah D):ah D:=match a with
 |some (.int i)=>aa (.int (-i))
 |_=>af
def ADP:Const->ah D
 |.int i=>aa (.int i)
 |.str x=>aa (.str x)
 |.bool b=>aa (.bl b)
 |.none=>aa .bj
 |_=>af
def RX(o o':U9)(a b c:ah D):ah D:=if o=.LtE/\o'=.LtE then WW a b c else if o=.Lt/\o'=.Lt then WX a b c else if o=.LtE/\o'=.Lt then WY a b c else af
def XA(f:Expr->ah D)(a:Expr):ab U9->ab Expr->ah D
 |[o],[b]=>if behindInMarks o b then af else AG (AA o) (f a) (f b)
 |[o,o'],[b,c]=>RX o o' (f a) (f b) (f c)
 |_,_=>af
noncomputable def unE(a:ah D):um->ah D
 |.USub=>K3 a
 |.Not=>BA a
 |_=>af
noncomputable def biE(a b:ah D):auy->ah D
 |.Add=>AG BI a b
 |.Sub=>AG E1 a b
 |_=>af
noncomputable def boE(f:Expr->ah D)(es:ab Expr):i7->ah D
 |.And=>KW f es
 |.Or=>KY f es
noncomputable def sbE(f:Expr->ah D)(o:Expr):Expr->ah D
 |.Slice lo hi af _=>BZ (f o) (lo.map f) (hi.map f)
 |i=>if AAK i then AG AB (f o) (f i)else af
noncomputable def caE(Γ:Ctx)(sc:cz)(f:Expr->ah D)(cpos:Pos):Expr->ab Expr->ah D
 |.Name x _,a::as=>if x="__debug__"\/x="__name__"then af else if EO sc x then(FF f (a::as)).bind (AAN Γ x)else af
 |.Attribute o m apos,as=>if WV o&&(apos.endLine==cpos.line)&&decide (as.length<20)then K2 m (f o) (FF f as)else af
 |_,_=>af
noncomputable def lcE(Γ:Ctx)(F:a4->cz->En->Expr->ah D)(fl:a4)(sc:cz)(η:En)(elt:Expr)(j:cz):ab bij->ah D
 |[⟨tg,iter,ifs,0⟩]=>if fl&&IA iter then(G5 Γ.N tg).bind λown=>(KZ sc (F fl sc η) tg iter).bind λq=>if K1 Γ.N sc j own&&W9 Γ.fi own then
  (A6 (λd=>(RV Γ.N j tg d (IT η (own.map (·.2)))).bind λW=>match ifs with
    |[]=>(F ag j W elt).map aa
    |[c]=>if FH c then AI (F ag j W c) ((F ag j W elt).map aa) (aa af)else af
    |_=>af) q).map D.lst else af else af
 |_=>af
def IV(Γ:Ctx)(f:a4->cz->En->Expr->ah D)(fl:a4)(sc:cz)(η:En)(e:Expr):ah D:=match e with
 |.Constant c _ _=>ADP c
 |.Name x _=>if x="__debug__"\/x="__classdict__"\/x="__name__"then af else if GH sc x then(slot Γ.N x).bind (getD η)else if EO sc x then(match Γ.gq x with
  |some d=>aa d
  |none=>AAL x)else af
 |.Attribute o a _=>if WV o then AAR Γ.fields sc Γ.fi o a (f fl sc η o)else af
 |.Subscript o i _=>sbE (f fl sc η) o i
 |.Tuple es _ _=>if es.length<=1000 then(FF (f fl sc η) es).map D.tup else af
 |.List es _=>if es.length<=1000 then(FF (f fl sc η) es).map D.lst else af
 |.BinOp a o b _=>biE (f fl sc η a) (f fl sc η b) o
 |.UnaryOp o a _=>unE (f fl sc η a) o
 |.BoolOp o es _=>boE (f fl sc η) es o
 |.IfExp c a b _=>if FH c then AI (f fl sc η c) (f fl sc η a) (f fl sc η b)else af
 |.Compare a o b _=>XA (f fl sc η) a o b
 |.Call g as [] p=>caE Γ sc (f fl sc η) p g as
 |.ListComp e g s _=>lcE Γ f fl sc η e s g
 |_=>af
def A9(Γ:Ctx):ai->a4->cz->En->Expr->ah D
 |0,_,_,_,_=>af
 |n+1,fl,sc,η,e=>IV Γ (A9 Γ n) fl sc η e
end DL
namespace DL
open PySem PySem.Spec PyProof.Rows L2
noncomputable def wE(X:Cx)(e:Expr):TE:=λA H Q=>∀pins s,Inv X pins A H s->ax (az X.prog X.w) X.A (eval e X.env) (EP X pins A Q) X.xe s
noncomputable def wT(X:Cx)(e:Expr):TT:=λA H Q=>∀pins s,Inv X pins A H s->ax (az X.prog X.w) X.A (uk e X.env (eval e X.env)) (TP X pins A Q) X.xe s
noncomputable def wW(X:Cx)(e:Expr):TT:=λA H Q=>∀j pins s,Inv X pins A H s->ax (az X.prog X.w) X.A (uk e X.env j) (TP X pins A Q) X.xe s
noncomputable def wA(X:Cx)(es:ab Expr):TA:=λA H Q=>∀pos pins s,Inv X pins A H s->ax (az X.prog X.w) X.A (spliced (kb pos (ed es X.env))) (AP X pins A Q) X.xe s
noncomputable def wI(X:Cx)(tg iter:Expr):TI:=λA H R=>∀pins s,Inv X pins A H s->
 ax (az X.prog X.w) X.A (eval iter X.env) (λv j=>ax (az X.prog X.w) X.A (yc v) (zj X pins A tg R) X.xe j) X.xe s
def cf(X)(e):PE X e (wE X e):=λpins s A H Q I h=>h pins s I
def nq(X)(e):PT X e (wT X e):=λpins s A H Q I h=>h pins s I
def agh(X)(e):PW X e (wW X e):=λj pins s A H Q I h=>h j pins s I
def i6(X)(es):PA X es (wA X es):=λpos pins s A H Q I h=>h pos pins s I
def agi(X)(tg iter):PI X tg iter (wI X tg iter):=λpins s A H R I h=>h pins s I
section
variable{X:Cx}{e:Expr}{A:L2.St}{H:Hp}
def PE.w(h:PE X e t)(q:t A H Q):wE X e A H Q:=λpins s I=>h pins s A H Q I q
def PT.w(h:PT X e t)(q:t A H Q):wT X e A H Q:=λpins s I=>h pins s A H Q I q
def PW.w(h:PW X e t)(q:t A H Q):wW X e A H Q:=λj pins s I=>h j pins s A H Q I q
def PA.w(h:PA X es t)(q:t A H Q):wA X es A H Q:=λpos pins s I=>h pos pins s A H Q I q
end
def XB(K:ba)(cls:Str->Addr)(g:ab D->ah D):Sp:=λvs H Q j=>l8 K cls g vs H Q
def GI:ab Str:=["len","isinstance","all","any","sum","tuple","list","int","str","ord","abs","range","enumerate","zip","dict","set","sorted"]
inductive RY(K:ba)(cls:Str->Addr)(C:Addr)(g:ab D->ah D)(vs:ab V)(H:Hp)(Q:VK)(E:XK):Prop|mk(O:Addr->a4)(ds)(r)(x)(dx)(ws)(e:vs=.ref x::ws)(hx:H x=aa (.ins C dx []))(hOx:O x=ae)(hO:BU O H)(hd:AJ K cls (rs O H) ws ds)(hg:g ds=aa r)
 (q:∀H',(∀b o,b≠x->H b=aa o->H' b=aa o)->Dr K cls (rs (λb=>O b&&!(b==x)) H') (.ref x) r->Q .bj H'):RY K cls C g vs H Q E
def AW(P:de)(w:c9)(K:ba)(mg:Str->ah a6)(base:Heap)(cls:Str->Addr)(x:Str)(k:ai)(g:ab D->ah D):Prop:=
 (∃f fd ps,mg x=aa (.ref f)/\og K (.ref f)=ae/\Binds K fd ps []/\g8 P w K mg base ig k f fd ps (XB K cls g))\/
 ∃C f fd ps j,mg x=aa (.ref C)/\Mk K C f/\Binds K fd ps []/\j+1<=k/\g8 P w K mg base ig j f fd ps (RY K cls C g)
structure GX(Γ:Ctx)(X:Cx)(fl:a4)(sc:cz):Prop where
 N:X.N=Γ.N
 nd:Γ.N.Nodup
 calm:X.calm=ae
 room:ie Γ.k X.A
 OB:X.A.in1.units+64<jj
 nt:∀x,GH sc x=ae->KG X.env.scope x
 gl:∀x,EO sc x=ae->Gl X x
 K4:fl=ae->X.env.scope=sc
 DZ:∀c f,(c,f)∈Γ.fields->fy X.K (Γ.cls c)/\BG X.K (Γ.cls c) f
 eg:∀x g,Γ.eg x=aa g->AW X.prog X.w X.K X.mg X.base Γ.cls x Γ.k g
 gq:∀x d,Γ.gq x=aa d->∃v u,X.mg x=aa u/\RelV v u/\∀H,Dr X.K Γ.cls H v d
 gu:∀x∈GI,X.mg x=af
 pw:Γ.pw=aa (X.prog,X.w)
def VR(K:ba)(cls:Str->Addr)(H:Hp)(A:L2.St)(η:En):Prop:=∀(i:ai)d,η[i]?=aa (aa d)->∃v,A[i]?=aa (aa v)/\Dr K cls H v d
def VR.up{K}(h:VR K cls H A η)(e:AH H H'):VR K cls H' A η:=λi d q=>
 au (h i d q) λv a b=>(ap v a (b.up e))
def MR(Γ:Ctx)(K:ba)(O:Addr->a4)(H:Hp)(A:L2.St):Prop:=∀m∈Γ.fi,∃i a dx fs,slot Γ.N m.x=aa i/\A[i]?=aa (aa (.ref a))/\H a=aa (.ins (Γ.cls m.c) dx fs)/\fs.map (·.1)=m.ns/\AJ K Γ.cls (rs O H) (fs.map (·.2)) m.l
structure VM(Γ:Ctx)(K:ba)(O:Addr->a4)(H:Hp)(A:L2.St)(η:En):Prop where
 v:VR K Γ.cls (rs O H) A η
 m:MR Γ K O H A
def MR.up{K}(h:MR Γ K O H A)(e:AH H H'):MR Γ K O H' A:=λm hm=>by show QY λz=>nh (h m hm) λi a dx fs h1 h2 j q W=>?_;apply z.f;show vb i a dx fs h1 h2 (e _ _ j) q (W.up (AH.rs O e))
def VM.up{K}(h:VM Γ K O H A η)(e:AH H H'):VM Γ K O H' A η:=⟨h.v.up (AH.rs O e),h.m.up e⟩
def VM.add{K}(h:VM Γ K O H A η)(hp:H p=af):VM Γ K (λb=>O b||(b==p)) (upd H p o) A η:=by
 let j:AH (rs O H) (rs (λb=>O b||(b==p)) (upd H p o)):=λb u q=>by
  let nO:O b=false:=by grind[rs]
  let W:=cq _ _ _ _ q;delta rs;rw[ao,a9 (fw W hp),W];lia
 show⟨h.v.up j,λm hm=>?_⟩;let⟨i,a,dx,fs,h1,h2,h3,h4,h5⟩:=h.m m hm;show vb i a dx fs h1 h2 ((AH.new hp) _ _ h3) h4 (h5.up j)
def slot_get:∀{N}{x}{i},slot N x=aa i->N[i]?=aa x
 |[],_,_,h=>yT
 |y::N,x,i,h=>by
  delta slot at h;k_lt h;.grind
  .let⟨j,q,rfl⟩:=bo h;let:=slot_get q;trivial
def getD_some(h:getD η i=aa d):η[i]?=aa (aa d):=by grind[getD]
def dy(h:notStar e=ae):ed (e::es) env=(ag,eval e env)::ed es env:=by cases e<;>first|trivial
set_option tactic.hygienic true in
def kl(h:WV e=ae):attributeBase e f env w=w:=by
 cases e<;>try rfl
 next g a k _=>
 cases g<;>try rfl
 cases a<;>try rfl
 cases k<;>try rfl
 show nb h
def agj(h:AAK i=ae):WI i:=λo v=>by cases i<;>first|trivial
def DA(Γ:Ctx)(X:Cx)(η:En)(e:Expr)(r:ah D):Prop:=
 ∀d,r=aa d->∀O A H Q,BU O H->VM Γ X.K O H A η->DG X.K Γ.cls O H Q d->wE X e A H Q
def K5(Γ:Ctx)(X:Cx)(η:En)(e:Expr)(r:ah D):Prop:=
 ∀b,r=aa (.bl b)->∀O A H Q,BU O H->VM Γ X.K O H A η->(∀H',AH H H'->Q b H')->wT X e A H Q
section
variable{Γ:Ctx}{X:Cx}{η:En}
def agk(ha:DA Γ X η a ra)(hb:DA Γ X η b rb)(ea:ra=aa x)(eb:rb=aa y){R:V->V->Hp->Prop}(q:BU O H)(hv:VM Γ X.K O H A η)
 (h:∀v w H',AH H H'->BU O H'->Dr X.K Γ.cls (rs O H') v x->Dr X.K Γ.cls (rs O H') w y->R v w H'):wE X a A H λv W=>wE X b A W λw H2=>R v w H2:=ha x ea O A H _ q hv λv W j d1=>(hb y eb O A W _ (q.up j) (hv.up j) λw H2 s2 d2=>(h v w H2 (j.trans s2) ((q.up j).up s2) (d1.up (AH.rs O s2)) d2))
def DG.after{K}(a:DG K cls O H Q r)(s:AH H H'):DG K cls O H' Q r:=λv H2 s2 d=>a v H2 (s.trans s2) d
def ab0{j W}{x y r}{f}(ha:DA Γ X η a j)(hb:DA Γ X η b W)(ea:j=aa x)(eb:W=aa y)(hf:f x y=aa r){O}{A}{H}{Q}(hO:BU O H)(hv:VM Γ X.K O H A η)
 (q:DG X.K Γ.cls O H Q r):KH (rD X.K Γ.cls f) (wE X a) (wE X b) A H Q:=
 agk ha hb ea eb hO hv λv w H' s h d1 d2=>⟨O,x,y,r,h,d1,d2,hf,q.after s⟩
def ab1(h:FF f (e::es)=aa ds):notStar e=ae/\∃d r,f e=aa d/\FF f es=aa r/\ds=d::r:=by
 delta FF at h;k_lt h;.delta AF at h;grind
 lia
def ab2:∀(es)(ds),(∀e∈es,DA Γ X η e (f e))->FF f es=aa ds->∀(O)(A)(H)(Q),BU O H->VM Γ X.K O H A η->
 (∀vs H',AH H H'->AJ X.K Γ.cls (rs O H') vs ds->Q vs H')->wA X es A H Q:=by
 intro es;induction es with
 |nil=>intro ds _ h O A H Q W hv q;injection h with h;subst h;show PA.w fx (q [] H (AH.refl H) .nil)
 |cons e es I=>show λds hs h O A H Q W hv q=>j6 (ab1 h) λhn d ds' he hes j=>?_;subst j;.show PA.w (gc (cf X e) (i6 X es) (dy hn)) (hs e (d7 ..) d he O A H _ W hv λv H1 s1 d1=>(I ds' (λe' he'=>hs e' (dj _ he')) hes O A H1 _ (W.up s1) (hv.up s1) λvs H2 s2 d2=>(q _ H2 (s1.trans s2) (.cons (d1.up (AH.rs O s2)) d2))))
def zu:∀{es}{ds},FF f es=aa ds->ds.length=es.length
 |[],ds,h=>by cases h;rfl
 |e::es,ds,h=>by show j6 (ab1 h) λhn d W he q j=>?_;subst j;rw[d6,d6,zu q]
def agl:∀{es}{ds},FF f es=aa ds->∀e∈es,notStar e=ae
 |[],ds,h=>λe he=>(nomatch he)
 |e::es,ds,h=>λe' j=>by
  show j6 (ab1 h) λhn d ds' he W q=>?_;obtain rfl|j:=df.mp j;.omega
  .show agl W e' j
def w6:∀{es},(∀e∈es,notStar e=ae)->(kb pos (ed es env)).any (·.1)=ag
 |[],_=>rfl
 |e::es,h=>by rw[dy (h e (d7 ..))];let W:=w6 (pos:=pos) (env:=env) λq j=>h q (dj _ j);trivial
def aob:∀{es},(∀e∈es,notStar e=ae)->(kb pos (ed es env)).all (λx=>!x.1)=ae
 |[],_=>rfl
 |e::es,h=>by rw[dy (h e (d7 ..))];let W:=aob (pos:=pos) (env:=env) λq j=>h q (dj _ j);trivial
def snd_and:∀(es),(∀e∈es,DA Γ X η e (f e))->DA Γ X η (.BoolOp .And es pos) (KW f es)
 |[],_=>λd h=>yT
 |[a],j=>λd h O A H Q W hv q=>PE.w (akv (cf X a)) (j a (d7 ..) d h O A H Q W hv q)
 |a::b::r,j=>λd h O A H Q W hv q=>by
  show PE.w (aya (cf X a) (cf X _)) ?_;unfold KW A0 at h;k_lt h;.ext hb;show j a (d7 ..) _ hb O A H _ W hv λv H1 s1 d1=>?_;cases d1;show ap ae rfl (snd_and _ (λe he=>j e (dj _ he)) d h O A H1 Q (W.up s1) (hv.up s1) (q.after s1))
  .ext hb;cases h;show j a (d7 ..) _ hb O A H _ W hv λv H1 s1 d1=>?_;cases d1;show ap ag rfl (q _ H1 s1 (.bl _))
  .trivial
def aoc:∀(es),(∀e∈es,DA Γ X η e (f e))->DA Γ X η (.BoolOp .Or es pos) (KY f es)
 |[],_=>λd h=>yT
 |[a],j=>λd h O A H Q W hv q=>PE.w (akv (cf X a)) (j a (d7 ..) d h O A H Q W hv q)
 |a::b::r,j=>λd h O A H Q W hv q=>by
  show PE.w (ayb (cf X a) (cf X _)) ?_;unfold KY A7 at h;k_lt h;.ext hb;show j a (d7 ..) _ hb O A H _ W hv λv H1 s1 d1=>?_;cases d1;show ap ag rfl (aoc _ (λe he=>j e (dj _ he)) d h O A H1 Q (W.up s1) (hv.up s1) (q.after s1))
  .ext hb;cases h;show j a (d7 ..) _ hb O A H _ W hv λv H1 s1 d1=>?_;cases d1;show ap ae rfl (q _ H1 s1 (.bl _))
  .trivial
def AAS(Γ:Ctx)(X:Cx)(η:En)(e:Expr)(r:ah D):Prop:=
 ∀b,r=aa (.bl b)->∀O A H Q,BU O H->VM Γ X.K O H A η->(∀H',AH H H'->Q b H')->wW X e A H Q
def aod:∀(es),(∀e∈es,K5 Γ X η e (f e))->AAS Γ X η (.BoolOp .And es pos) (KW f es)
 |[],_=>λd h=>yT
 |[a],j=>λd h O A H Q W hv q=>PW.w (aks (nq X a)) (j a (d7 ..) d h O A H Q W hv q)
 |a::b::r,j=>λd h O A H Q W hv q=>by
  show PW.w (akt (nq X a) (agh X _)) ?_;unfold KW A0 at h;k_lt h;.ext hb;show j a (d7 ..) _ hb O A H _ W hv λH1 s1=>(aod _ (λe he=>j e (dj _ he)) d h O A H1 Q (W.up s1) (hv.up s1) λH2 s2=>q H2 (s1.trans s2))
  .ext hb;show j a (d7 ..) _ hb O A H _ W hv λH1 s1=>?_;walk
  .trivial
def aoe:∀(es),(∀e∈es,K5 Γ X η e (f e))->AAS Γ X η (.BoolOp .Or es pos) (KY f es)
 |[],_=>λd h=>yT
 |[a],j=>λd h O A H Q W hv q=>PW.w (ax8 (nq X a)) (j a (d7 ..) d h O A H Q W hv q)
 |a::b::r,j=>λd h O A H Q W hv q=>by
  show PW.w (ax9 (nq X a) (agh X _)) ?_;unfold KY A7 at h;k_lt h;.ext hb;show j a (d7 ..) _ hb O A H _ W hv λH1 s1=>(aoe _ (λe he=>j e (dj _ he)) d h O A H1 Q (W.up s1) (hv.up s1) λH2 s2=>q H2 (s1.trans s2))
  .ext hb;show j a (d7 ..) _ hb O A H _ W hv λH1 s1=>?_;walk
  lia
end
section
variable{Γ:Ctx}{X:Cx}{η:En}
def adz{K}:∀(kvs)(l),AJ K cls H (kvs.map (·.2)) l->
 (∀d,CT (kvs.map (·.1)) l k=aa d->∃v,FC kvs k=aa v/\Dr K cls H v d)/\(CT (kvs.map (·.1)) l k=af->FC kvs k=af)
 |[],l,h=>⟨λd e=>(by trivial),λζ=>rfl⟩
 |(k0,v0)::kvs,l,h=>by
  cases h.e with
  |cons h1 h2=>
   let⟨i1,i2⟩:=adz kvs _ h2;delta FC at i1 i2⊢;show⟨λd e=>?_,λe=>?_⟩
   .rw[b9]at e;delta CT at e;rwa[awh];by_cases hk:k0=k;.walk
    .rw[ao hk]at e;erw[gi (hk),i1 d e]
   .rw[b9]at e;delta CT at e;grind
def a26{K}(h:AJ K cls H (kvs.map (·.2)) l):(FC kvs k).isSome=(CT (kvs.map (·.1)) l k).isSome:=by let⟨j,W⟩:=adz (k:=k) _ _ h;cases q:CT _ l k<;>grind
def ab3{K}(h:keyOf d=aa k)(r:Dr K cls H v d):v=kV k:=by cases r.e<;>first|(injection h with h;subst h;rfl)|trivial
def ad0{K}:∀(fs:ab (Str×V))(l),AJ K cls H (fs.map (·.2)) l->G4 (fs.map (·.1)) l f=aa d->∃v,fs.lookup f=aa v/\Dr K cls H v d
 |[],l,h,e=>by trivial
 |(n0,v0)::fs,l,h,e=>by
  rw[b9]at h e;cases h.e with
  |cons h1 h2=>
   delta G4 at e;simp[JU];by_cases hk:n0=f;.walk
   .rw[ao hk]at e;erw[i8.mpr (λz=>hk z.symm),ad0 fs _ h2 e]
def a27(h:WZ a b=aa r):∃c z,a=.str ⟨⟨[c]⟩⟩/\b=.str z/\r=decide (c∈z.cps.toList):=by
 cases a with
 |str x=>
  let⟨⟨l⟩⟩:=x;obtain _|⟨c,_|_⟩:=l<;>w_top h
  cases b<;>w_top h
  cases h;show dq _ _ rfl rfl rfl
 |_=>show nn h
def aof(G:GX Γ X fl sc)(op):BS X (ia op) (rD X.K Γ.cls (AA op)):=by
 cases op with
 |Eq=>show a1r G.room.units
 |NotEq=>show a1s G.room.units
 |Lt=>show a1v
 |LtE=>show a1w
 |Gt=>show a1x
 |GtE=>show a1y
 |Is=>show a16
 |IsNot=>show λpins s σ H x y v u Q I j q⟨O,d,e,r,hO,W,hy,hf,a⟩=>nn hf
 |In|NotIn=>
  rintro pins s σ H x y v u Q I j q⟨O,d,e,r,hO,W,hy,hf,a⟩;delta AA at hf;simp only at hf;k_lt hf
  .let⟨k,hk,rfl⟩:=bo hf;let e1:=ab3 hk W;clear hf W;subst e1;let⟨_,_,rfl,g1,g2,g3⟩:=hy;subst g2;cases q;let g:=FD.k (k:=k) (cq _ _ _ _ g1);first|apply a0j I g j|apply a0k I g j
   show λs' I'=>⟨.bl _,H,I',rfl,?_⟩;erw[a26 g3,a.flat (.bl _)]
  .let⟨b,hb,rfl⟩:=bo hf;let⟨_,_,rfl,eq,rfl⟩:=a27 hb;cases eq;cases W;cases hy;first|show a1n pins s σ H _ _ v u Q I j q ⟨_,_,rfl,rfl,a.flat (.bl _)⟩|show a1o pins s σ H _ _ v u Q I j q ⟨_,_,rfl,rfl,a.flat (.bl _)⟩
  .first|show a13 G.OB pins s σ H x y v u Q I j q ⟨O,d,e,r,hO,W,hy,hf,a⟩|show a14 G.OB pins s σ H x y v u Q I j q ⟨O,d,e,r,hO,W,hy,hf,a⟩
def a28:B4 X (.builtin "abs") (l8 X.K cls N9):=by
 intro pins s j H xs us Q I r q;show QY λz=>?_;let⟨O,ds,d,W,hd,hf,a⟩:=q;delta N9 at hf;k_lt hf;.let⟨v,rfl,h⟩:=one hd;injection hf with hf;subst hf;cases h;apply z.f;show ayx pins s j H _ us Q I r (ap _ rfl (a.flat (.int _)))
 lia
def a29(G:GX Γ X fl sc)(j:W0 x=aa g)(hg:EO sc x=ae)
 (hs:∀e∈a::as,notStar e=ae)(hd:g ds=aa d)    (hO:BU O H)(q:DG X.K Γ.cls O H Q d)
 (ha:∀(R),(∀vs H',AH H H'->AJ X.K Γ.cls (rs O H') vs ds->R vs H')->wA X (a::as) σ H R):
 wE X (.Call (.Name x p) (a::as) [] pos) σ H Q:=by
 let st:=dy (env:=X.env) (es:=as) (hs a (d7 ..));let ns:=w6 (pos:=pos) (env:=X.env) (es:=as) λe he=>hs e (dj _ he);let W:wA X (a::as) σ H λvs H'=>l8 X.K Γ.cls g vs H' Q:=ha _ λvs H' s' dv=>⟨O,ds,d,hO.up s',dv,hd,q.after s'⟩;delta W0 at j;k_lt j;.show QY λz=>?_;ext e;subst e;cases j;apply z.f;show PE.w (t9 a17 (G.gl _ hg) (G.gu _ (by decide)) bik (i6 X (a::as)) (by decide) (by decide) st ns) W
 k_lt j;.ext e;subst e;cases j;show PE.w (t9 a2b (G.gl _ hg) (G.gu _ (by decide)) bm2 (i6 X (a::as)) (by decide) (by decide) st ns) W
 k_lt j;.show QY λzz=>?_;ext e;subst e;cases j;apply zz.f;show PE.w (t9 (a2c G.calm) (G.gl _ hg) (G.gu _ (by decide)) bm3 (i6 X (a::as)) (by decide) (by decide) st ns) W
 k_lt j;.ext e;subst e;cases j;show PE.w (t9 (a2d G.calm) (G.gl _ hg) (G.gu _ (by decide)) bm4 (i6 X (a::as)) (by decide) (by decide) st ns) W
 k_lt j;.ext e;subst e;cases j;show PE.w (t9 (a2e G.calm) (G.gl _ hg) (G.gu _ (by decide)) bm5 (i6 X (a::as)) (by decide) (by decide) st ns) W
 k_lt j;.ext e;subst e;cases j;show PE.w (adf a2f (G.gl _ hg) (G.gu _ (by decide)) bil (i6 X (a::as)) (by decide) (by decide) st ns) W
 k_lt j;.ext e;subst e;cases j;show PE.w (adf a2g (G.gl _ hg) (G.gu _ (by decide)) bim (i6 X (a::as)) (by decide) (by decide) st ns) W
 k_lt j;.ext e;subst e;cases j;show PE.w (adf a2h (G.gl _ hg) (G.gu _ (by decide)) bio (i6 X (a::as)) (by decide) (by decide) st ns) W
 k_lt j;.ext e;subst e;cases j;show PE.w (t9 a2i (G.gl _ hg) (G.gu _ (by decide)) bm6 (i6 X (a::as)) (by decide) (by decide) st ns) W
 k_lt j;.ext e;subst e;cases j;show PE.w (t9 a28 (G.gl _ hg) (G.gu _ (by decide)) boot_abs (i6 X (a::as)) (by decide) (by decide) st ns) W
 k_lt j;.ext e;subst e;cases j;show PE.w (t9 a2p (G.gl _ hg) (G.gu _ (by decide)) bm7 (i6 X (a::as)) (by decide) (by decide) st ns) W
 show nn j
end
end DL
namespace EN
open PySem PySem.Spec PyProof.Rows L2
open AutoSeq1(wpAny_loadPart')
section
variable{B:de}{w:c9}{A:jg}{E:a6->cu->Prop}{s:cu}
def ad1{q}{y}{Q}(hI:s.heap.IsTupleIter it tp j)(hT:s.heap.IsTuple tp q)(hy:q[j]?=aa y)
 (k:∀h2,h2.IsTupleIter it tp (j+1)->JM it s.heap h2->Q y {s with heap:=h2}):ax (az B w) A (bip (.ref it)) Q E s:=by show bz (id hI) λoI eI cI W=>j7 hT λoT eT _ nT dT=>aq (MW hI.typeIs Z8 (sj Z8 hI.typeIs biq ?_ (bir _)));change ax _ _ (field _ 0>>=_) _ _ _;show aq (lq eI W rfl (aq (lq eI W rfl (aq (we eT dT ?_)))));simp[hy];show aq (Z5 eI W yS (b4 (ap y rfl (b4 (k _ ⟨_,ZH _ eI (bid (Z6 W _)),(bie ..).trans cI,?_⟩ (NC ..))))));rw[Z6 W];rfl
def agm{its}{Q}(hn:A.handled=af)(hI:s.heap.IsTupleIter it tp j)(hT:s.heap.IsTuple tp its)(hy:its[j]?=af)
 (k:∀h2 x,Z7 it s.heap h2->(∃o,h2.get? x=aa o/\o.cls=.type "StopIteration")->E (.ref x) {s with heap:=h2}):ax (az B w) A (bip (.ref it)) Q E s:=by
 show bz (id hI) λoI eI cI dI=>j7 hT λoT eT _ nT dT=>aq (MW hI.typeIs Z8 (sj Z8 hI.typeIs biq ?_ (bir _)));change ax _ _ (field (.ref it) 0>>=_) _ _ _;show aq (lq eI dI (x:=.ref tp) rfl ?_);show aq (lq eI dI rfl (aq (we eT dT ?_)));rwa[Z3,hy];show aq (NA (aq (Z5 eI dI yS (aq ?_))));show aq (MX (aq (wpAny_of_eq (a:=QC) ?_ ?_)) (by size_fits));.first|rfl
 show MX ?_ (by size_fits);show aq (bih ?_);first|rw[hn]
 show aq (b4 (wpAny_throw (k _ _ (((NC ..).extBut.push _).push _) (ap _ (f7 _ rfl) rfl))))
end
def aog(hn:A.handled=af)(it W)(hne:W≠it)(q):Draws B w A it [it,W] q.size (λj v=>q[j]?=aa v) (λj h=>h.IsTupleIter it W j/\h.IsTuple W q)where
 live:=λζ ζ st=>au st.1 λo e _=>⟨o,e⟩
 frame:=λζ ζ ζ st kp=>⟨au st.1 λo e c=>(ap o (kp it yS o e) c),au st.2 λo e c=>(ap o (kp W yS o e) c)⟩
 item:=λj s Q E hj st k=>ad1 st.1 st.2 (y:=q[j]) yS λh2 i2 sb=>k _ h2 s.toks yS ⟨i2,au st.2 λo e c=>(ap o ((sb.2 W hne).trans e) c)⟩ sb
 done:=λs Q E st k=>agm hn st.1 st.2 yS k
def K6(j:Addr):Obj:={cls:=.type "tuple_iterator",data:=.fields #[.ref j,.int 0 0]}
def AAT(j:Addr):Obj:={cls:=.type "enumerate",data:=.fields #[.none,.bool ag,.ref j,Z4 0,.none,.none]}
def a3a(tp)(its)(n)(d8)(sl):
 Meets (Builtin.«enumerate.__new__» ⟨[.type "enumerate",.ref tp],[]⟩) λζ R s=>s.heap.get? tp=aa ⟨.type "tuple",d8,.seq its n,sl⟩/\
  R (.ok (.ret (.ref (s.heap.push (K6 tp)).objs.size))) {s with heap:=(s.heap.push (K6 tp)).push (AAT s.heap.objs.size)}:=by show .of_wp λB w A R s h=>?_;let⟨hp,g,d,tk,os⟩:=s;let⟨e0,h⟩:=h;let sb:=sub_enumerate;let tT:awk (awl ⟨hp,g,d,tk,os⟩) tp its:=(lx _ e0 rfl n rfl);wp_walk using wpAny_loadPart' e0;show wpAny_stack_any λst=>b4 ?_;generalize bm8 _ _ _ _=b;cases b;all_goals wp_walk using wpAny_loadPart' e0,UN tT;show ap _ rfl h
def a3b{E}{s:cu}{q}{W}{Q}(hT:s.heap.IsTuple q W)
 (k:∀h2,IsEnum h2 (s.heap.objs.size+1) s.heap.objs.size 0 .none->h2.IsTupleIter s.heap.objs.size q 0->(∀b o,s.heap.get? b=aa o->h2.get? b=aa o)->Q (.ref (s.heap.objs.size+1)) {s with heap:=h2}):
 ax (az B w) A (call (.type "enumerate") [.ref q]) Q E s:=by
 show j7 hT λj e0 hc n hd=>?_;let⟨c,d8,dt,sl⟩:=j;subst hc hd;show bis F.called_enumerate yD (F.typeCall_enumerate_1 _) (F.newCall_enumerate_1 _) (λobj=>F.args_object_init_2 obj _) F.entry_enumerate_new (a3a q W n d8 sl) ⟨e0,?_⟩;let hz:(s.heap.push (K6 q)).objs.size=s.heap.objs.size+1:=jz ..;rw[hz];let he:=by let z:=f7 (s.heap.push (K6 q)) (o:=AAT s.heap.objs.size) rfl;rw[hz]at z;omega
 show⟨(ap _ he rfl),k _ he (et _ (dg _ (f7 _ rfl)) rfl rfl) λb o x=>dg _ (dg _ x)⟩
def XC(K:ba)(a:Addr):It:=
 ⟨λi H=>∃xs x,AS K H a xs/\xs[i]?=aa x,λi H v H'=>∃T x,v=.ref T/\H T=af/\H'=upd H T (.tup [.int (i:ai),x])/\∀xs,AS K H a xs->xs[i]?=aa x,λi H=>∃xs:ab V,AS K H a xs/\xs.length=i⟩
def a3c{K}(a e it):
 Turn P w K (.Tuple elts kk tpos) (XC K a) [e,it] e (λi h=>(∃old,IsEnum h e it i old)/\h.IsTupleIter it a i/\e≠it)where
 mem:=yS
 obj:=λi h st b hb=>by
  let⟨⟨old,he⟩,⟨o,ho,hc,hd⟩,_⟩:=st;obtain z|z:=(by simpa using hb);.erw[z,ap _ he λv q=>nomatch q]
  .erw[z,ap o ho λv q=>by rw[hd]at q;cases q]
 keep:=λi h h' st k=>d9 st λzq49_1 zq49_2 j=>xE zq49_1 λold he=>au zq49_2 λo ho r=>⟨⟨old,k e yS _ he⟩,(ap o (k it yS o ho) r),j⟩
 item:=by
  show λX hP hw hK hc i pins s σ H E I hf st hg=>QY λzz=>?_;subst hP hw hK;let⟨⟨old,he⟩,hit,j⟩:=st;show jd hg λxs x hq hx=>bz (I.tuple hq) λits rv p hz=>?_;let⟨u,hu,ru⟩:=rv.get hx;let hel:e<s.heap.objs.size:=ec he;let nea:a≠it:=by rintro rfl;let⟨o1,e1,c1,_⟩:=hit;let⟨o2,e2,c2,_⟩:=p;rw[e1]at e2;cases e2;rw[c1]at c2;injection c2 with c2;show cj c2 yD
  let nee:e∉[it,a]:=by
   intro hm;obtain z|z:=(by simpa using hm);.show j z
   .show bz p λo2 e2 c2 _=>?_;rw[<-z,he]at e2;cases e2;injection c2 with c2;show cj c2 yD
  let hlt:i<its.toArray.size:=by show(x9.mp hu).1
  apply zz.f;show wpAny_pyNext_enum_itemD (aog (A:=X.A.in1) (I.ok.hd hc) it a nea its.toArray) he ⟨hit,p⟩ hlt j nee λy h' tk hy ho st' hT hsz hk=>?_;let hyu:y=u:=by
   let hy':its[i]?=aa y:=by simpa using hy
   rw[hu]at hy';show(fo hy').symm
  subst hyu;show ap _ rfl (bhc ho λh'' he' sb=>?_);let hT2:=(sb.2 _ (uq hel)).trans hT;let new:CB X.prog X.w (upd H s.heap.objs.size (.tup [.int (i:ai),x])) h'' s.heap.objs.size (.tup [.int (i:ai),x]):=
   ⟨by change 2<=aw;decide,[.int i tk,y],.cons ⟨_,rfl⟩ (.cons ru .nil),(lx _ hT2 rfl _ rfl)⟩;let I1:Inv X pins σ _ {s with heap:=h'',toks:=tk+1}:=
   I.adm (ch:=[e,it]) (λb ob hb q=>(sb.2 b (λz=>hb (by simp[z]))).trans (hk b ob (λz=>hb (by simp[z])) (λz=>hb (by simp[z])) q)) hf (b8 _) new;show jx (.ref s.heap.objs.size) _ I1 rfl (ic _ x rfl (I.bu.fresh (b8 _)) rfl (λys hy=>by erw[I.wt hy hq,hx])) ⟨⟨y,?_⟩,au st'.1 λo3 e3 r3=>(ap o3 ((sb.2 it (ji j)).trans e3) r3),j⟩ λb hb=>?_;.let e1:((i+1:ai):ak)=(i:ak)+1:=yL;erw[e1,he']
  .let hb':b<s.heap.objs.size:=by
    obtain z|z:=(by simpa using hb);.erw[z,hel]
    .erw[z,(by show au hit λ_ q _=>ec q)]
   erw[a9 (g9 hb'),(hf b hb).1]
 done:=by
  intro X hP hw hK hc i pins s σ H E I hf st hg;subst hP hw hK;let⟨⟨old,he⟩,hit,j⟩:=st;show au hg λxs hq hx=>bz (I.tuple hq) λits rv p hz=>jc (hf it yS) λf0 f1 f2 f3 W=>xA W λf4 f5=>?_;clear W;let hl:=rv.length;let nea:a≠it:=by rintro rfl;let⟨o1,e1,c1,_⟩:=hit;let⟨o2,e2,c2,_⟩:=p;rw[e1]at e2;cases e2;rw[c1]at c2;injection c2 with c2;show cj c2 yD
  let hn:i=its.toArray.size:=by rw[uw];lia
  show wpAny_pyNext_enum_endD (aog (A:=X.A.in1) (I.ok.hd hc) it a nea its.toArray) he ⟨hn▸hit,p⟩ λh' eb=>⟨rfl,I.turned (t':=s.toks) (λb o hb q=>eb b o hb q) f0 f1 f3 f4 f5⟩
 self:=λA i s Q E st h=>xA st λzq24_1 _=>xE zq24_1 λ_ he=>ZQ he h
def ADQ(K:ba)(ta:TA):TI:=λq H R=>ta q H λvs j=>∃a xs,vs=[.ref a]/\AS K j a xs/\R (XC K a) j
def aoh(hg:Gl X "enumerate")(hm:X.mg "enumerate"=af)(ha:PA X [e] ta)(hs:ed [e] X.env=[(ag,eval e X.env)]:=by rfl):
 PI X (.Tuple elts kk tpos) (.Call (.Name "enumerate" p) [e] [] pos) (ADQ X.K ta):=by
 show λpins s σ H R I h=>QG (o9 I hg hm bhd (JN (bg (ha pos pins s σ H _ I h) λus j z=>QY λw=>?_) hs rfl));let⟨vs,H1,I1,r1,q1⟩:=z;show b7 q1 λa xs ex hq q=>?_;clear q1;subst ex;cases r1 with
 |cons r rr=>
  cases rr;cases r;show bz (I1.tuple hq) λits rv p' hz=>?_;apply w.f;show a3b p' λh' he hit hk=>ZQ he ⟨j.heap.objs.size+1,[j.heap.objs.size+1,j.heap.objs.size],_,_,H1,rfl,(I1.kept hk),a3c a _ j.heap.objs.size,⟨⟨.none,he⟩,hit,bhe _⟩,λb hb=>?_,q⟩;let W:j.heap.objs.size<=b:=by grind
  show I1.t7 W (I1.bu.fresh W)
end EN
namespace EN
open PySem PySem.Spec PyProof.Rows L2
section
variable{B:de}{w:c9}{A:jg}{E:a6->cu->Prop}{s:cu}
def nu(x:h.IsTupleIter j t k)(e:Z7 c h h2)(W:j≠c):h2.IsTupleIter j t k:=au x λo q r=>⟨o,e j o W q,r⟩
def vm(x:h.IsTuple t xs)(e:Z7 c h h2)(j:t≠c):h2.IsTuple t xs:=au x λo q r=>⟨o,e t o j q,r⟩
structure XD(h:Heap)(z pI pO j1 j2 t1 t2:Addr)(k:ai)(xs ys:yf a6):Prop where
 zz:wb h z pI pO .none
 pi:oh h pI (.ref j1) (.ref j2)
 po:∃a b,oh h pO a b
 i1:h.IsTupleIter j1 t1 k
 i2:h.IsTupleIter j2 t2 k
 s1:h.IsTuple t1 xs
 s2:h.IsTuple t2 ys
def a3d{xs ys}{x y}{Q}(D:ZR z pI j j1 j2 t1 t2)(Z:XD s.heap z pI j j1 j2 t1 t2 k xs ys)(hx:xs[k]?=aa x)(hy:ys[k]?=aa y)
 (go:∀h2,wb h2 z pI j (Z4 s.heap.objs.size)->oh h2 j x y->h2.IsTupleIter j1 t1 (k+1)->h2.IsTupleIter j2 t2 (k+1)->oh h2 s.heap.objs.size x y->
   (∀c o,c≠z->c≠j->c≠j1->c≠j2->s.heap.get? c=aa o->h2.get? c=aa o)->Q (aa (.ref s.heap.objs.size)) {s with heap:=h2}):ax (az B w) A (qg (.ref z)) Q E s:=by
 let⟨hz,hpi,⟨a0,b0,hpo⟩,h1,h2,g1,g2⟩:=Z;let tyz:s.TypeIs (.ref z) "zip":=(ap _ hz rfl);delta qg;show aq (Z1 (MW (name:=M7 "__next__") tyz Z9 (sj Z9 tyz biu ?_ (biv _))));change ax _ _ (field (.ref z) 2>>=λζ=>_) _ _ _;show aq (lq hz rfl (x:=xw ag) rfl ?_);show aq (lq hz rfl (x:=ko pI) rfl (aq (we hpi rfl ?_)));show aq ?_;delta biw;show aq (lq hz rfl (x:=QC) rfl (b4 ?_));rwa[jk];show aq (NA (aq (lq hz rfl (x:=ko j) rfl (aq (QU hz yS λm1 hz1 e1=>?_)))));let hz1:wb m1 z pI j .ellipsis:=hz1;show aq ?_;show aq (aq (ajm ?_));show aq (ad1 (nu h1 e1.extBut D.i1z) (vm g1 e1.extBut D.l1z) hx λm2 h12 e2=>b4 ?_);let o2:oh m2 j a0 b0:=e2.extBut _ _ D.TOi1 (e1.extBut _ _ D.TOz hpo);show aq (we o2 rfl (aq (awm o2 λm3 o3 e3=>?_)));let o3:oh m3 j x b0:=o3;show aq (awn (b4 (aq (aq (ajm ?_)))));show aq (ad1 (nu (nu (nu h2 e1.extBut D.i2z) e2.extBut D.i12.symm) e3.extBut D.TOi2.symm) (vm (vm (vm g2 e1.extBut D.l2z) e2.extBut D.l2i1) e3.extBut D.l2TO) hy λm4 h24 e4=>b4 ?_);let o4:oh m4 j x b0:=e4.extBut _ _ D.TOi2 o3;show aq (we o4 rfl (aq (awm o4 λW o5 e5=>?_)));let o5:oh W j x y:=o5;show aq (awn (b4 (b4 (aq (we o5 rfl (aq (wpAny_newTuple ?_)))))));let sz:W.objs.size=s.heap.objs.size:=by rw[e5.1,e4.1,e3.1,e2.1,e1.1]
 let hz5:wb W z pI j .ellipsis:=e5.extBut _ _ D.TOz.symm (e4.extBut _ _ D.i2z.symm (e3.extBut _ _ D.TOz.symm (e2.extBut _ _ D.i1z.symm hz1)));let h15:W.IsTupleIter j1 t1 (k+1):=nu (nu (nu h12 e3.extBut D.TOi1.symm) e4.extBut D.i12) e5.extBut D.TOi1.symm;let h25:W.IsTupleIter j2 t2 (k+1):=nu h24 e5.extBut D.TOi2.symm;let zlt:z<W.objs.size:=ec hz5;show aq ?_;delta bm9;let hz6:wb (W.push {cls:=.type "tuple",data:=.seq #[x,y]}) z pI j .ellipsis:=dg _ hz5;show aq (QU hz6 yS λm7 hz7 e7=>?_);show QU hz7 yS λm8 hz8 e8=>?_;let up:∀c o,c≠z->W.get? c=aa o->m8.get? c=aa o:=λc o n1 q=>e8.extBut _ _ n1 (e7.extBut _ _ n1 (dg _ q));let hT:oh m8 W.objs.size x y:=e8.extBut _ _ (uq zlt) (e7.extBut _ _ (uq zlt) (f7 _ rfl));rw[sz]at hz8 hT;show b4 (ap _ rfl ?_);change ax _ _ _ _ _ _;erw[sz,b4 (go m8 hz8 (up _ _ D.TOz o5) (let⟨o,q,r⟩:=h15;(ap o (up _ _ D.i1z q) r)) (let⟨o,q,r⟩:=h25;(ap o (up _ _ D.i2z q) r)) hT λc o n1 n2 n3 n4 q=>up c o n1 ((λc o n1 n2 n3 n4 q=>e5.extBut _ _ n2 (e4.extBut _ _ n4 (e3.extBut _ _ n2 (e2.extBut _ _ n3 (e1.extBut _ _ n1 q))))) c o n1 n2 n3 n4 q))]
def a3e{xs ys}{Q}(hn:A.handled=af)(D:ZR z pI pO j1 j2 t1 t2)(Z:XD s.heap z pI pO j1 j2 t1 t2 k xs ys)(hend:xs[k]?=af\/ys[k]?=af)
 (go:∀h2,(∀c o,c≠z->c≠pO->c≠j1->c≠j2->s.heap.get? c=aa o->h2.get? c=aa o)->Q af {s with heap:=h2}):ax (az B w) A (qg (.ref z)) Q E s:=by
 let⟨hz,hpi,⟨a0,b0,hpo⟩,h1,h2,g1,g2⟩:=Z;let tyz:s.TypeIs (.ref z) "zip":=(ap _ hz rfl);delta qg;show aq (Z1 (MW (name:=M7 "__next__") tyz Z9 (sj Z9 tyz biu ?_ (biv _))));let fin:∀h2 x,_->(∃o,h2.get? x=aa o/\o.cls=.type "StopIteration")->
  ax (az B w) A (do let stop<-isInstance (.ref x) (.type "StopIteration");if stop then pure (af:ah a6)else throw (.ref x)) Q E {s with heap:=h2}:=λh2 x kp⟨o,ho,hc⟩=>
  aq (U6 (T:="StopIteration") (b:=ae) (ap o ho hc) bii (b4 (go _ kp)));change ax _ _ (field (.ref z) 2>>=λζ=>_) _ _ _;show aq (lq hz rfl (x:=xw ag) rfl ?_);show aq (lq hz rfl (x:=ko pI) rfl (aq (we hpi rfl (aq ?_))));delta biw;show aq (lq hz rfl (x:=QC) rfl (b4 ?_));rwa[jk];show aq (NA (aq (lq hz rfl (x:=ko pO) rfl (aq (QU hz yS λm1 j W=>?_)))));let j:wb m1 z pI pO .ellipsis:=j;show aq ?_;show aq (aq (ajm ?_));clear hz tyz;cases hx:xs[k]? with
 |none=>
  show aq (agm hn (nu h1 W.extBut D.i1z) (vm g1 W.extBut D.l1z) hx λm2 x e2⟨oe,q,c⟩=>?_);let hz2:wb m2 z pI pO .ellipsis:=e2 _ _ D.i1z.symm j;clear D j;let nx:x≠z:=λr=>by subst r;rw[hz2]at q;cases q;simp at c
  show QU hz2 yS λm3 ζ e3=>fin m3 x (λc o n1 ζ n3 ζ r=>e3.extBut _ _ n1 (e2 _ _ n3 (W.extBut _ _ n1 r))) ⟨oe,e3.extBut _ _ nx q,c⟩
 |some x0=>
  let hy:ys[k]?=none:=hend.elim (λr=>by rw[hx]at r;cases r) id;show aq (ad1 (nu h1 W.extBut D.i1z) (vm g1 W.extBut D.l1z) hx λm2 h12 e2=>b4 ?_);let o2:oh m2 pO a0 b0:=e2.extBut _ _ D.TOi1 (W.extBut _ _ D.TOz hpo);show aq (we o2 rfl (aq (awm o2 λm3 o3 e3=>aq (awn (b4 (aq (aq (ajm (aq (agm hn (nu (nu (nu h2 W.extBut D.i2z) e2.extBut D.i12.symm) e3.extBut D.TOi2.symm) (vm (vm (vm g2 W.extBut D.l2z) e2.extBut D.l2i1) e3.extBut D.l2TO) hy λm4 x e4⟨oe,q,c⟩=>?_))))))))));let hz4:wb m4 z pI pO .ellipsis:=e4 _ _ D.i2z.symm (e3.extBut _ _ D.TOz.symm (e2.extBut _ _ D.i1z.symm j));clear D j;let nx:x≠z:=λr=>by subst r;rw[hz4]at q;cases q;simp at c
  show QU hz4 yS λm5 ζ e5=>fin m5 x (λc o n1 n2 n3 n4 r=>e5.extBut _ _ n1 (e4 _ _ n4 (e3.extBut _ _ n2 (e2.extBut _ _ n3 (W.extBut _ _ n1 r))))) ⟨oe,e5.extBut _ _ nx q,c⟩
end
def RZ(h:Heap)(j:Addr):Heap:=h.push (K6 j)
def R0(h:Heap)(j q:Addr):Heap:=(RZ h j).push (K6 q)
def R1(h:Heap)(j q:Addr):Heap:=(R0 h j q).push {cls:=.type "tuple",data:=.seq #[.ref h.objs.size,.ref (RZ h j).objs.size]}
def R3(h:Heap)(j q:Addr):Heap:=(R1 h j q).push {cls:=.type "tuple",data:=.seq #[.none,.none]}
def K7(h:Heap)(j q:Addr):Heap:=(R3 h j q).push {cls:=.type "zip",data:=.fields #[.none,.bool ag,.bool ag,.ref (R0 h j q).objs.size,.ref (R1 h j q).objs.size]}
def a3f(t1 t2)(xs ys):Meets (Builtin.«zip.__new__» ⟨[.type "zip",.ref t1,.ref t2],[]⟩) λζ R s=>s.heap.IsTuple t1 xs/\s.heap.IsTuple t2 ys/\R (.ok (.ret (.ref (R3 s.heap t1 t2).objs.size))) {s with heap:=K7 s.heap t1 t2}:=by show .of_wp λB w A R s h=>?_;let⟨hp,g,d,tk,os⟩:=s;let sb:=sub_zip;let T1:awk (awl ⟨hp,g,d,tk,os⟩) t1 xs:=h.1;let T2:awk (awl ⟨hp.push {cls:=.type "tuple_iterator",data:=.fields #[.ref t1,.int 0 0]},g,d,tk,os⟩) t2 ys:=au h.2.1 λo e r=>(ap o (dg _ e) r);wp_walk using UN T1,UN T2;show ap _ rfl h.2.2
def a3g{E}{s:cu}{j q}{xs ys}{Q}(q1:s.heap.IsTuple j xs)(q2:s.heap.IsTuple q ys)
 (k:∀h2,XD h2 (s.heap.objs.size+4) (s.heap.objs.size+2) (s.heap.objs.size+3) s.heap.objs.size (s.heap.objs.size+1) j q 0 xs ys->(∀c o,s.heap.get? c=aa o->h2.get? c=aa o)->Q (.ref (s.heap.objs.size+4)) {s with heap:=h2}):
 ax (az B w) A (call (.type "zip") [.ref j,.ref q]) Q E s:=by show bis F.called_zip yD (F.typeCall_zip_2 _ _) (F.newCall_zip_2 _ _) (λobj=>F.args_object_init_3 obj _ _) F.entry_zip_new (a3f j q xs ys) ⟨q1,q2,?_⟩;let W:(RZ s.heap j).objs.size=s.heap.objs.size+1:=jz ..;let z2:(R0 s.heap j q).objs.size=s.heap.objs.size+2:=(jz ..).trans (by rw[W]);let z3:(R1 s.heap j q).objs.size=s.heap.objs.size+3:=(jz ..).trans (by rw[z2]);let z4:(R3 s.heap j q).objs.size=s.heap.objs.size+4:=(jz ..).trans (by rw[z3]);let kp:∀c o,s.heap.get? c=aa o->(K7 s.heap j q).get? c=aa o:=λc o e=>dg _ (dg _ (dg _ (dg _ (dg _ e))));let g5:(K7 s.heap j q).get? (R3 s.heap j q).objs.size=aa _:=f7 _ rfl;let g4:(K7 s.heap j q).get? (R1 s.heap j q).objs.size=aa _:=dg _ (f7 _ rfl);let g3:(K7 s.heap j q).get? (R0 s.heap j q).objs.size=aa _:=dg _ (dg _ (f7 _ rfl));let g2:(K7 s.heap j q).get? (RZ s.heap j).objs.size=aa _:=dg _ (dg _ (dg _ (f7 _ rfl)));change _/\_;rw[z2,z3,z4]at g5;rw[W,z2]at g3;rw[z3]at g4;rw[W]at g2;erw[z4,⟨(ap _ g5 rfl),k _ ⟨g5,g3,(m9 _ _ g4),(et _ (dg _ (dg _ (dg _ (dg _ (f7 _ rfl))))) rfl rfl),(et _ g2 rfl rfl),(let⟨o,e,r⟩:=q1;(ap o (kp _ _ e) r)),(let⟨o,e,r⟩:=q2;(ap o (kp _ _ e) r))⟩ kp⟩]
def XE(K:ba)(a b:Addr):It:=
 ⟨λi H=>∃xs ys x y,AS K H a xs/\AS K H b ys/\xs[i]?=aa x/\ys[i]?=aa y,
  λi H v H'=>∃T x y,v=.ref T/\H T=af/\H'=upd H T (.tup [x,y])/\(∀xs,AS K H a xs->xs[i]?=aa x)/\∀ys,AS K H b ys->ys[i]?=aa y,
  λi H=>∃xs ys:ab V,AS K H a xs/\AS K H b ys/\(xs.length<=i\/ys.length<=i)⟩
def a3h{K}{a b z TI TO i1 i2}(D:ZR z TI TO i1 i2 a b):
 Turn P w K (.Tuple elts kk tpos) (XE K a b) [z,TI,TO,i1,i2] z (λi h=>wb h z TI TO .none/\oh h TI (.ref i1) (.ref i2)/\(∃x y,oh h TO x y)/\h.IsTupleIter i1 a i/\h.IsTupleIter i2 b i)where
 mem:=yS
 obj:=λi h st c hc=>by
  let⟨hz,j,⟨x,y,W⟩,⟨o1,e1,_,d1⟩,⟨o2,e2,_,d2⟩⟩:=st;obtain q|q|q|q|q:=(by simpa using hc);.erw[q,ap _ hz λv q=>nomatch q]
  .erw[q,ap _ j λv q=>nomatch q]
  .erw[q,ap _ W λv q=>nomatch q]
  .erw[q,ap o1 e1 λv q=>by rw[d1]at q;cases q]
  .erw[q,ap o2 e2 λv q=>by rw[d2]at q;cases q]
 keep:=λi h h' st k=>by let⟨hz,j,⟨x,y,W⟩,⟨o1,e1,r1⟩,⟨o2,e2,r2⟩⟩:=st;show⟨k z yS _ hz,k TI yS _ j,(m9 x y (k TO yS _ W)),(ap o1 (k i1 yS o1 e1) r1),(ap o2 (k i2 yS o2 e2) r2)⟩
 item:=by
  show λX hP hw hK hc i pins s σ H E I hf st hg=>QY λz1=>?_;subst hP hw hK;show jc st λhz j zq63_1 h1 h2=>iy zq63_1 λx0 y0 W=>rl hg λxs ys x y hqx hqy hx hy=>bz (I.tuple hqx) λits rv p _=>bz (I.tuple hqy) λits2 rv2 p2 _=>?_;let⟨u,hu,ru⟩:=rv.get hx;let⟨u2,zq,ru2⟩:=rv2.get hy;let hzl:=ec hz;apply z1.f;show a3d D ⟨hz,j,(m9 _ _ W),h1,h2,p,p2⟩ (x:=u) (y:=u2) (by simpa using hu) (by simpa using zq) λh' z' TO' h1' h2' hT hk=>ap _ rfl (bhf z' λh'' z'' sb=>?_);let hT2:=(sb.2 _ (uq hzl)).trans hT;let new:CB X.prog X.w (upd H s.heap.objs.size (.tup [x,y])) h'' s.heap.objs.size (.tup [x,y]):=
   ⟨by change 2<=aw;decide,[u,u2],.cons ru (.cons ru2 .nil),(lx _ hT2 rfl _ rfl)⟩;let I1:=
   I.adm (t':=s.toks) (λc o hb q=>(sb.2 c (λq'=>hb (by simp[q']))).trans (hk c o (λq'=>hb (by simp[q'])) (λq'=>hb (by simp[q'])) (λq'=>hb (by simp[q'])) (λq'=>hb (by simp[q'])) q)) hf (b8 _) new;show jx (.ref s.heap.objs.size) _ I1 rfl (aau _ x y rfl (I.bu.fresh (b8 _)) rfl (λl hl=>by erw[I.wt hl hqx,hx]) (λl hl=>by erw[I.wt hl hqy,hy])) ⟨z'',(sb.2 _ D.TIz).trans (hk _ _ D.TIz D.TITO D.TIi1 D.TIi2 j),(m9 u u2 ((sb.2 _ D.TOz).trans TO')),au h1' λo3 e3 r3=>ap o3 ((sb.2 _ D.i1z).trans e3) r3,au h2' λo3 e3 r3=>ap o3 ((sb.2 _ D.i2z).trans e3) r3⟩ λc hcm=>?_
  .let hlt:c<s.heap.objs.size:=by
    obtain q|q|q|q|q:=(by simpa using hcm);.erw[q,hzl]
    .erw[q,ec j]
    .erw[q,ec W]
    .erw[q,au h1 λ_ e1 _=>ec e1]
    .erw[q,au h2 λ_ e2 _=>ec e2]
   erw[a9 (g9 hlt),(hf c hcm).1]
 done:=by
  show λX hP hw hK hc i pins s σ H E I hf st hg=>QY λzz=>?_;subst hP hw hK;let⟨hz,j,⟨x0,y0,W⟩,h1,h2⟩:=st;show b7 hg λxs ys hqx hqy hend=>bz (I.tuple hqx) λits rv p _=>bz (I.tuple hqy) λits2 rv2 p2 _=>?_;let l1:=rv.length;let l2:=rv2.length;let he:its.toArray[i]?=af\/its2.toArray[i]?=none:=by show hend.elim (λq=>.inl (by simp;lia)) λq=>.inr (by simp;lia)
  apply zz.f;show a3e (I.ok.hd hc) D ⟨hz,j,(m9 _ _ W),h1,h2,p,p2⟩ he λh' hk=>⟨rfl,I.amv (t':=s.toks) (λc o hb q=>
   hk c o (λq'=>hb (by simp[q'])) (λq'=>hb (by simp[q'])) (λq'=>hb (by simp[q'])) (λq'=>hb (by simp[q'])) q) hf⟩
 self:=λA i s Q E st h=>ZS st.1 h
def ADR(K:ba)(ta:TA):TI:=λq H R=>ta q H λvs j=>∃a b xs ys,vs=[.ref a,.ref b]/\AS K j a xs/\AS K j b ys/\R (XE K a b) j
def a3i{p pos tpos}{kk}(hg:Gl X "zip")(hm:X.mg "zip"=af)(ha:PA X [e,e2] ta)
 (hs:ed [e,e2] X.env=(ag,eval e X.env)::ed [e2] X.env:=by rfl)(hpl:(kb pos (ed [e2] X.env)).any (·.1)=false:=by rfl):
 PI X (.Tuple elts kk tpos) (.Call (.Name "zip" p) [e,e2] [] pos) (ADR X.K ta):=by
 show λpins s σ H R I h=>QG (o9 I hg hm amz (JN (bg (ha pos pins s σ H _ I h) λus j z1=>QY λw=>?_) hs hpl));let⟨vs,H1,W,r1,q1⟩:=z1;show rl q1 λa b xs ys ex hqx hqy q=>?_;subst ex;cases r1 with
 |cons r rr=>
  cases rr with
  |cons r' rr=>
   cases rr;cases r;cases r';show bz (W.tuple hqx) λits rv p1 _=>bz (W.tuple hqy) λits2 rv2 p2 _=>?_;apply w.f;show a3g p1 p2 λh' Z hk=>ZS Z.zz ⟨j.heap.objs.size+4,[j.heap.objs.size+4,j.heap.objs.size+2,j.heap.objs.size+3,j.heap.objs.size,j.heap.objs.size+1],_,_,H1,rfl,(W.kept hk),a3h (bhg j.heap.objs.size a b p1.lt p2.lt),⟨Z.zz,Z.pi,Z.po,Z.i1,Z.i2⟩,λc hcm=>?_,q⟩;let hle:j.heap.objs.size<=c:=by obtain z|z|z|z|z:=(by simpa using hcm)<;>rw[z]<;>first|simp
   show W.t7 hle (W.bu.fresh hle)
end EN
namespace DL
open PySem PySem.Spec PyProof.Rows L2
structure uc(K:ba)(cls:Str->Addr)(J:It)(A:Hp)(ds:ab D):Prop where
 go:∀i H2,AH A H2->i<ds.length->J.go i H2
 k7:∀i H2 x H3 d,AH A H2->J.k7 i H2 x H3->ds[i]?=aa d->AH H2 H3/\∀O,BU O H2->(∀b o,A b=aa o->O b=ag)->Dr K cls (rs O H3) x d
 stop:∀H2,AH A H2->J.stop ds.length H2
def ADS(K:ba)(H:Hp):Prop:=∀a xs,(AR K H a xs\/AS K H a xs)->xs.length<=aw
def PI.len(h:PI X tg iter wi):PI X tg iter (λσ H R=>wi σ H λJ j=>ADS X.K j->(∀a xs ys,AR X.K j a xs->AR X.K j a ys->xs=ys)->(∀a xs ys,AS X.K j a xs->AS X.K j a ys->xs=ys)->R J j):=by
 show λpins s σ H R I q=>bg (h pins s σ H _ I q) λv s1 h1=>bg h1 λitv s2 h2=>?_;let⟨it,fp,tn,J,H',e,W,T,st,f,q⟩:=h2;show⟨it,fp,tn,J,H',e,W,T,st,f,q (λa xs hs=>?_) (λa xs ys h1 h2=>W.abn h1 h2) (λa xs ys h1 h2=>W.wt h1 h2)⟩;obtain hs|hs:=hs;.let⟨_,_,_,z⟩:=W.list hs;omega
 .let⟨_,_,_,z⟩:=W.tuple hs;omega
section
variable{K:ba}{cls:Str->Addr}{A:Hp}
def ud(s:AH A H2)(h:∀b o,A b=aa o->O b=ag):AH A (rs O H2):=λb o e=>by delta rs;erw[ao yA,s b o e]
def aoi(h:A a=aa (.lst xs))(r:AJ K cls A xs ds):uc K cls (WA K a) A ds where
 go:=λi H2 s hi=>by show gk xs _ (AR.of (s _ _ h)) (gz (by rw[r.length];omega))
 k7:=λi H2 x H3 d s j hd=>xA j λe y=>by subst e;show⟨AH.refl _,λO hO W=>au (r.get hd) λv q rv=>?_⟩;rw[y xs (AR.of (s _ _ h))]at q;injection q with q;subst q;show rv.up (ud s W)
 stop:=λH2 s=>⟨xs,AR.of (s _ _ h),JQ r.length⟩
def a3j(h:AS K A a xs)(r:AJ K cls A xs ds):uc K cls (WB K a) A ds where
 go:=λi H2 s hi=>by show gk xs _ (AS.same s h) (gz (by rw[r.length];omega))
 k7:=λi H2 x H3 d s j hd=>xA j λe y=>by subst e;show⟨AH.refl _,λO hO W=>au (r.get hd) λv q rv=>?_⟩;rw[y xs (AS.same s h)]at q;injection q with q;subst q;show rv.up (ud s W)
 stop:=λH2 s=>⟨xs,AS.same s h,JQ r.length⟩
def ab4:∀(n)(lo),(EE lo n).length=n
 |0,_=>rfl
 |n+1,lo=>by delta EE;rw[d6,ab4 n]
def aoj:∀(n)(lo)(i:ai)(d),(EE lo n)[i]?=aa d->d=.int (lo+i)
 |0,_,_,_,h=>yT
 |n+1,lo,0,d,h=>by simp_all[EE]
 |n+1,lo,i+1,d,h=>by delta EE at h;let:=aoj n _ i d (by simpa using h);lia
def aok{lo}:uc K cls (NZ lo n) A (EE lo n)where
 go:=λi H2 s hi=>by rw[ab4]at hi;show hi
 k7:=λi H2 x H3 d s zq11_1 hd=>xA zq11_1 λe y=>by subst e;erw[aoj n lo i d hd,y,⟨AH.refl _,λO ζ ζ=>.int _⟩]
 stop:=λH2 s=>by erw[ab4,b8 _]
def agn:∀(l)(n i)(d:D),(CM n l)[i]?=aa d->∃x,l[i]?=aa x/\d=.tup [.int (n+i:ai),x]
 |[],n,i,d,h=>yT
 |a::l,n,0,d,h=>by simp_all[CM]
 |a::l,n,i+1,d,h=>by delta CM at h;show au (agn l _ i d (by simpa using h)) λx h1 h2=>ap x yT ?_;lia
def zv:∀(l)(n),(CM n l).length=l.length
 |[],_=>rfl
 |a::l,n=>by delta CM;simp[zv l]
def ago:∀(l m)(i:ai)(d),(CU l m)[i]?=aa d->∃x y,l[i]?=aa x/\m[i]?=aa y/\d=.tup [x,y]
 |[],m,i,d,h=>yT
 |a::l,[],i,d,h=>yT
 |a::l,b::m,0,d,h=>by simp_all[CU]
 |a::l,b::m,i+1,d,h=>by show b7 (ago l m i d yT) λx y h1 h2 j=>?_;walk
def zw:∀(l m),(CU l m).length=min l.length m.length
 |[],m=>rfl
 |a::l,[]=>rfl
 |a::l,b::m=>by delta CU;rwa[d6,zw l m];lia
def ad2(q:BU O H2)(j:H2 T=af)(s:AH A H2)(hd:∀b o,A b=aa o->O b=ag)(W:Dr K cls A x d)(hy:Dr K cls A y e):
 Dr K cls (rs O (upd H2 T (.tup [x,y]))) (.ref T) (.tup [d,e]):=
 .tup (.inl (.inl (adp q j))) (.cons ((W.up (ud s hd)).up (adq j)) (.cons ((hy.up (ud s hd)).up (adq j)) .nil))
def a3k(h:A a=aa (.lst xs))(r:AJ K cls A xs ds):uc K cls (WN K a) A (CM 0 ds)where
 go:=λi H2 s hi=>by rw[zv]at hi;show gk xs _ (AR.of (s _ _ h)) (gz (by rw[r.length];omega))
 k7:=λi H2 x H3 d s j hd=>fg j λT x0 e1 e2 e3 y=>by subst e1 e3;let⟨d0,g1,rfl⟩:=agn ds 0 i d hd;show⟨AH.new e2,λO hO W=>au (r.get g1) λv q rv=>?_⟩;rw[y xs (AR.of (s _ _ h))]at q;injection q with q;subst q;erw[ND,ad2 hO e2 s W (.int _) rv]
 stop:=λH2 s=>⟨xs,AR.of (s _ _ h),by erw[zv,JQ r.length]⟩
def a3l(h:AS K A a xs)(r:AJ K cls A xs ds):uc K cls (EN.XC K a) A (CM 0 ds)where
 go:=λi H2 s hi=>by rw[zv]at hi;show gk xs _ (AS.same s h) (gz (by rw[r.length];omega))
 k7:=λi H2 x H3 d s j hd=>fg j λT x0 e1 e2 e3 y=>by subst e1 e3;let⟨d0,g1,rfl⟩:=agn ds 0 i d hd;show⟨AH.new e2,λO hO W=>au (r.get g1) λv q rv=>?_⟩;rw[y xs (AS.same s h)]at q;injection q with q;subst q;erw[ND,ad2 hO e2 s W (.int _) rv]
 stop:=λH2 s=>⟨xs,AS.same s h,by erw[zv,r.length]⟩
def a3m{xs ys}{ds es}(h:A a=aa (.lst xs))(r:AJ K cls A xs ds)(h2:A b=aa (.lst ys))(r2:AJ K cls A ys es):uc K cls (WO K a b) A (CU ds es)where
 go:=λi H2 s hi=>by rw[zw]at hi;show ac5 xs ys _ _ (AR.of (s _ _ h)) (AR.of (s _ _ h2)) (gz (by rw[r.length];lia)) (gz (by rw[r2.length];lia))
 k7:=λi H2 x H3 d s j hd=>fh j λT x0 y0 e1 e2 e3 q=>xA q λy y'=>by subst e1 e3;show b7 (ago ds es i d hd) λd0 d1 g1 g2 W=>?_;subst W;show⟨AH.new e2,λO hO hdj=>QY λz=>?_⟩;let⟨v,hv,rv⟩:=r.get g1;let⟨v2,hv2,rv2⟩:=r2.get g2;rw[y xs (AR.of (s _ _ h))]at hv;rw[y' ys (AR.of (s _ _ h2))]at hv2;injection hv with hv;subst hv;obtain rfl:=fo hv2;apply z.f;show ad2 hO e2 s hdj rv rv2
 stop:=λH2 s=>(dq xs ys (AR.of (s _ _ h)) (AR.of (s _ _ h2)) (by rw[zw,r.length,r2.length];lia))
def a3n(h:AS K A a xs)(r:AJ K cls A xs ds)(h2:AS K A b ys)(r2:AJ K cls A ys es):uc K cls (EN.XE K a b) A (CU ds es)where
 go:=λi H2 s hi=>by rw[zw]at hi;show ac5 xs ys _ _ (AS.same s h) (AS.same s h2) (gz (by rw[r.length];lia)) (gz (by rw[r2.length];lia))
 k7:=λi H2 x H3 d s j hd=>fh j λT x0 y0 e1 e2 e3 q=>xA q λy y'=>by subst e1 e3;show b7 (ago ds es i d hd) λd0 d1 g1 g2 W=>?_;subst W;show⟨AH.new e2,λO hO hdj=>QY λz=>?_⟩;let⟨v,hv,rv⟩:=r.get g1;let⟨v2,hv2,rv2⟩:=r2.get g2;rw[y xs (AS.same s h)]at hv;rw[y' ys (AS.same s h2)]at hv2;injection hv with hv;subst hv;obtain rfl:=fo hv2;apply z.f;show ad2 hO e2 s hdj rv rv2
 stop:=λH2 s=>(dq xs ys (AS.same s h) (AS.same s h2) (by rw[zw,r.length,r2.length];lia))
def a3o:uc K cls (WM x) A (x.cps.toList.map λc=>.str ⟨#[c]⟩)where
 go:=λi H2 s hi=>by rw[bt]at hi;show hi
 k7:=λi H2 v H3 d s zq42_1 hd=>rj zq42_1 λe c hc y=>by subst e;rw[i9,Array.getElem?_toList,hc]at hd;injection hd with hd;subst hd;erw[y,⟨AH.refl _,λO ζ ζ=>.str _⟩]
 stop:=λH2 s=>by erw[bt,b8 _]
end
section
variable{Γ:Ctx}{X:Cx}{η:En}
def R4(Γ:Ctx)(X:Cx)(η:En)(tg e:Expr)(r:ah (ab D)):Prop:=
 ∀ds,r=aa ds->∀O q H R,BU O H->VM Γ X.K O H q η->
  (∀J j,AH H j->ds.length<=aw->uc X.K Γ.cls J (rs O j) ds->R J j)->wI X tg e q H R
def PI.w(h:PI X tg e t)(q:t j H R):wI X tg e j H R:=λpins s I=>h pins s j H R I q
def aol(h:DA Γ X η e r):R4 Γ X η tg e (r.bind BM):=by
 intro ds hd O σ H R hO hv q;let⟨d,rfl,hi⟩:=ay hd;delta BM at hi;k_lt hi;.cases hi;show PI.w (PI.len (ayl (cf X e))) (h _ rfl O σ H _ hO hv λv W s1 d1=>?_);let⟨_,_,rfl,g1,g2⟩:=d1;let j:=AS.same (cq _ _) g1;show et _ rfl ⟨_,j⟩ λhl ζ ζ=>q _ W s1 (by erw[<-g2.length,hl _ _ (.inr j)]) (a3j g1 g2)
 .cases hi;show PI.w (PI.len (ayk (cf X e))) (h _ rfl O σ H _ hO hv λv W s1 d1=>?_);let⟨_,_,rfl,g1,g2⟩:=d1;let j:=AR.of (K:=X.K) (cq _ _ _ _ g1);show et _ rfl ⟨_,j⟩ λhl ζ ζ=>q _ W s1 (by erw[<-g2.length,hl _ _ (.inl j)]) (aoi g1 g2)
 .k_lt hi;.injection hi with hi;subst hi;show PI.w (a0z (cf X e)) (h _ rfl O σ H _ hO hv λv W s1 d1=>?_);cases d1;show ap _ rfl (q _ W s1 yA a3o)
  .trivial
 .trivial
def a3p(h:W5 a b=aa r):(∃l m,a=aa (.tup l)/\b=aa (.tup m)/\r=CU l m)\/∃l m,a=aa (.lst l)/\b=aa (.lst m)/\r=CU l m:=by
 obtain _|d:=a;.show nn h
 cases d<;>w_top h
 all_goals
  obtain _|e:=b;.show nn h
  cases e<;>w_top h
 .cases h;show .inl (dq _ _ rfl rfl rfl)
 .cases h;show .inr (dq _ _ rfl rfl rfl)
set_option tactic.hygienic true in
def aom(G:GX Γ X fl sc)(hs:∀e,DA Γ X η e (f e))(e):R4 Γ X η tg e (KZ sc f tg e):=by
 intro ds hd O σ H R hO hv q;let small:∀n:ai,n<=2000000->n<=sizeLine:=λn h=>by rw[JP];lia
 revert hd;delta KZ;obtain _|⟨⟨x,p,as,pos⟩,rfl⟩:=W6 e<;>intro hd;rotate_left
 .dsimp only at hd⊢;k_lt hd
  .ext hx;rw[cg]at hx;let ex:x="range":=ff hx.2;subst ex;obtain _|⟨a,_|⟨b,_|_⟩⟩:=as<;>w_top hd
   all_goals dsimp only at hd
   .k_lt hd
    .ext hn;delta RW at hd;k_lt hd
     .ext j ha;k_lt hd;.cases hd;show PI.w (aym (G.gl _ hx.1) (G.gu _ yD) (gc (cf X a) fx (dy hn)) (dy hn)) (hs a _ ha O σ H _ hO hv λv H1 s1 d1=>?_);cases d1;show⟨j,rfl,yL,yL,q _ H1 s1 (by erw[ab4,small _ yL]) aok⟩
      .show nn hd
     .show nn hd
    .show nn hd
   .k_lt hd
    .ext hnn;rw[cg]at hnn;let⟨hn,hn2⟩:=hnn;delta OA at hd;k_lt hd
     .ext i j ha hb;k_lt hd;.ext hj;cases hd;show PI.w (ayn (G.gl _ hx.1) (G.gu _ (by decide)) (gc (cf X a) (gc (cf X b) fx (dy hn2)) (dy hn)) (by rw[dy hn,dy hn2];rfl) (dy hn2)) (hs a _ ha O σ H _ hO hv λv H1 s1 d1=>hs b _ hb O σ H1 _ (hO.up s1) (hv.up s1) λw H2 s2 d2=>?_);cases d1;cases d2;show dq i j rfl ⟨yL,yL,yL,yL⟩ (q _ H2 (s1.trans s2) (by erw[ab4,small _ yL]) aok)
      .show nn hd
     .show nn hd
    .show nn hd
  k_lt hd
  .ext _ hx;rw[cg]at hx;let ex:x="enumerate":=ff hx.2;subst ex;obtain _|⟨a,_|_⟩:=as<;>w_top hd
   .dsimp only at hd;k_lt hd;.ext hnn;rw[cg]at hnn;let⟨hn,htg⟩:=hnn;cases tg with
     |Tuple elts kk tpos=>
      delta IU at hd;k_lt hd;.ext l ha;cases hd;show PI.w (PI.len (EN.aoh (G.gl _ hx.1) (G.gu _ (by decide)) (gc (cf X a) fx (dy hn)) (dy hn))) (hs a _ ha O σ H _ hO hv λv H1 s1 d1=>?_);let⟨_,_,rfl,g1,g2⟩:=d1;let W:=AS.same (cq _ _) g1;show dq _ _ rfl W λhl ζ ζ=>q _ H1 s1 (by erw[zv,<-g2.length,hl _ _ (.inr W)]) (a3l g1 g2)
      .ext l ha;cases hd;show PI.w (PI.len (a02 (G.gl _ hx.1) (G.gu _ (by decide)) (gc (cf X a) fx (dy hn)) (dy hn))) (hs a _ ha O σ H _ hO hv λv H1 s1 d1=>?_);let⟨_,_,rfl,g1,g2⟩:=d1;let W:=AR.of (K:=X.K) (cq _ _ _ _ g1);show dq _ _ rfl W λhl ζ ζ=>q _ H1 s1 (by erw[zv,<-g2.length,hl _ _ (.inl W)]) (a3k g1 g2)
      .show nn hd
     |_=>show nb htg
    .show nn hd
  k_lt hd
  .ext _ _ hx;rw[cg]at hx;let ex:x="zip":=ff hx.2;subst ex;obtain _|⟨a,_|⟨b,_|_⟩⟩:=as<;>w_top hd
   .dsimp only at hd;k_lt hd;.ext hnn;rw[cg,cg]at hnn;let⟨⟨hn,hn2⟩,htg⟩:=hnn;cases tg with
     |Tuple elts kk tpos=>
      obtain⟨l,m,ha,hb,rfl⟩|⟨l,m,ha,hb,rfl⟩:=a3p hd;.show PI.w (PI.len (EN.a3i (G.gl _ hx.1) (G.gu _ (by decide)) (gc (cf X a) (gc (cf X b) fx (dy hn2)) (dy hn)) (dy hn) (w6 λe he=>by obtain rfl|he:=df.mp he;show hn2;cases he))) (hs a _ ha O σ H _ hO hv λv H1 s1 d1=>hs b _ hb O σ H1 _ (hO.up s1) (hv.up s1) λw H2 s2 d2=>?_);let⟨_,_,rfl,g1,g2⟩:=d1;let⟨_,_,rfl,k1,k2⟩:=d2;let g1u:=AS.same (AH.rs O s2) g1;let W:=AS.same (cq _ _) g1u;show ac5 _ _ _ _ rfl W (AS.same (cq _ _) k1) λhl ζ ζ=>q _ H2 (s1.trans s2) (by rw[zw];let:=hl _ _ (.inr W);rw[g2.length]at this;lia) (a3n g1u (g2.up (AH.rs O s2)) k1 k2)
      .show PI.w (PI.len (a04 (G.gl _ hx.1) (G.gu _ (by decide)) (gc (cf X a) (gc (cf X b) fx (dy hn2)) (dy hn)) (dy hn) (w6 λe he=>by obtain rfl|he:=df.mp he;show hn2;cases he))) (hs a _ ha O σ H _ hO hv λv H1 s1 d1=>hs b _ hb O σ H1 _ (hO.up s1) (hv.up s1) λw H2 s2 d2=>?_);let⟨_,_,rfl,g1,g2⟩:=d1;let⟨_,_,rfl,k1,k2⟩:=d2;let g1u:=AH.rs O s2 _ _ g1;let W:=AR.of (K:=X.K) (cq _ _ _ _ g1u);show ac5 _ _ _ _ rfl W (AR.of (cq _ _ _ _ k1)) λhl ζ ζ=>q _ H2 (s1.trans s2) (by rw[zw];let:=hl _ _ (.inl W);rw[g2.length]at this;lia) (a3m g1u (g2.up (AH.rs O s2)) k1 k2)
     |_=>show nb htg
    .show nn hd
  .show aol (hs _) ds hd O σ H R hO hv q
 .show aol (hs _) ds hd O σ H R hO hv q
def w8{env:Env}:∀{j:ab (Str×avs)}{k},j.lookup x=aa k->
 (j.map fun(n,k)=>if(k==QO&&env.scope.kind==.function&&env.kindOf n==aa .cell)then(n,ZM)else(n,k)).lookup x=aa k\/
 (k=.free/\(j.map fun(n,k)=>if(k==QO&&env.scope.kind==.function&&env.kindOf n==aa .cell)then(n,ZM)else(n,k)).lookup x=aa .cell)
 |[],k,h=>yT
 |(n,k0)::r,k,h=>by
  rw[JU]at h;cases q:(k0==QO&&env.scope.kind==.function&&env.kindOf n==aa .cell)
  .change ye x ((if _ then _ else _)::_)=_\/_/\ye x ((if _ then _ else _)::_)=_;rw[q,ao yD,JU];cases z:x==n;.rw[z]at h;show w8 h
   walk
  .change ye x ((if _ then _ else _)::_)=_\/_/\ye x ((if _ then _ else _)::_)=_;rw[q,aj rfl,JU];cases z:x==n;.rw[z]at h;show w8 h
   grind
def zx(h:GH sc x=ae):sc.names.lookup x=aa .local\/sc.names.lookup x=aa .cell\/sc.names.lookup x=aa .free:=by delta GH at h;k_lt h;all_goals lia
def aon(h:C1 sc x=ae):sc.names.lookup x=aa .local\/sc.names.lookup x=aa .cell:=by delta C1 at h;k_lt h;all_goals lia
def vo(h:EO sc x=ae):sc.names.lookup x=aa .globalImplicit:=by
 delta EO at h;k_lt h;.omega
 trivial
def GX.fm(G:GX Γ X fl sc)(s)(H)(C)(cl)(fp):GX Γ (X.fm s H scope (ja scope cl C X.env) fp) ag scope where
 N:=G.N
 nd:=G.nd
 calm:=G.calm
 room:=G.room
 OB:=G.OB
 nt:=λx h=>by
  obtain e|e|e:=zx h
  .obtain z|z:=w8 e;.show .inl z
   .cases z.1
  .obtain z|z:=w8 e;.show .inr (.inl z)
   .cases z.1
  .show(w8 e).elim (λz=>.inr (.inr z)) λz=>.inr (.inl z.2)
 gl:=λx h=>by
  obtain z|z:=w8 (vo h);.show z
  .cases z.1
 K4:=λh=>yT
 DZ:=G.DZ
 eg:=G.eg
 gq:=G.gq
 gu:=G.gu
 pw:=G.pw
def a3q(h:C1 j x=ae)(s)(H)(C)(cl)(fp):
 Loc (X.fm s H j (ja j cl C X.env) fp).env.scope x/\((X.fm s H j (ja j cl C X.env) fp).fn x=ae\/(X.fm s H j (ja j cl C X.env) fp).env.scope.names.lookup x=aa .local):=by
 obtain e|e:=aon h
 .obtain z|z:=w8 e;.show⟨.inl z,.inr z⟩
  .cases z.1
 .obtain z|z:=w8 e;.show⟨.inr z,.inl yL⟩
  .cases z.1
def ad3:∀{vs},i∉vs->(wipe j vs)[i]?=j[i]?
 |[],_=>rfl
 |v::vs,h=>by rw[df,sk]at h;delta wipe;erw[ir (λe=>h.1 e.symm),ad3 h.2]
def aoo:∀{vs},(IT η vs)[i]?=aa (aa d)->η[i]?=aa (aa d)/\i∉vs
 |[],h=>⟨h,yS⟩
 |v::vs,h=>by
  delta IT at h;by_cases hi:v=i;.grind
  .rw[ir hi]at h;let⟨h1,h2⟩:=aoo h;show⟨h1,by simp[sk];lia⟩
def VR.wipe{K}(h:VR K cls H j η)(vs):VR K cls H (L2.wipe j vs) (IT η vs):=λi d e=>by let⟨q,W⟩:=aoo e;show au (h i d q) λv h1 h2=>?_;simp_all[ad3]
def VR.set{K}(h:VR K cls H σ η)(hi:i<σ.length)(r:Dr K cls H v d):VR K cls H (σ.set i (aa v)) (η.set i (aa d)):=λj d' e=>by
 by_cases hj:i=j;.subst hj;grind
 .rw[ir hj]at e;show au (h j d' e) λw h1 h2=>?_;walk
def agp(vs):(wipe j vs).length=j.length:=adk j vs
def ab5:∀{vs},i∈vs->wipe (σ.set i v) vs=wipe σ vs
 |[],h=>(nomatch h)
 |w::vs,h=>by
  delta wipe;by_cases hi:i∈vs;.rw[ab5 hi]
  .obtain e|e:=df.mp h
   .subst e;show bix λj=>?_;by_cases hj:i=j;.grind[agp]
    .rw[ir hj,ir hj];by_cases hj2:j∈vs;.clear hi h;induction vs with
      |nil=>trivial
      |cons a vs ih=>delta wipe;grind[agp,qj,ir]
     simp_all[ad3]
   .show cj e hi
def aop(vs):∀j,(∀w∈j,w∈vs)->wipe (wipe q j) vs=wipe q vs
 |[],_=>rfl
 |w::j,h=>by change wipe ((wipe q j).set w af) vs=_;rw[ab5 (h w (d7 ..)),aop vs j λx W=>h x (dj _ W)]
end
section
variable{Γ:Ctx}{X:Cx}{η:En}
def lj(h:slot N x=aa i):i<N.length:=(x9.mp (slot_get h)).1
set_option tactic.hygienic true in
def a3r{sc}{tg}{d}{η'}{v}{σ}{H}{Q}(hN:Y.N=Γ.N)(nd:Γ.N.Nodup)(hc:Y.calm=ae)
 (W:∀x,C1 sc x=ae->Loc Y.env.scope x/\(Y.fn x=ae\/Y.env.scope.names.lookup x=aa .local))
 (h:RV Γ.N sc tg d η=aa η'){cls}{Hb}(hb:AH Hb H)(r:Dr Y.K cls Hb v d)(hv:VR Y.K cls Hb σ η)(hl:σ.length=Γ.N.length)
 (q:∀σ',σ'.length=Γ.N.length->(∀vs,(∀p∈(G5 Γ.N tg).getD [],p.2∈vs)->wipe σ' vs=wipe σ vs)->VR Y.K cls Hb σ' η'->(∀k,(∀p∈(G5 Γ.N tg).getD [],p.2≠k)->σ'[k]?=σ[k]?)->Q σ' H):
 ∃g,PG Y tg g/\g v σ H Q:=by
 obtain⟨hx,hi⟩|⟨hx,hy,hi,hj⟩:=aoa h;.ext x p i;let e:G5 Γ.N (.Name x p)=aa [(x,i)]:=eh (a7 _) hi;let⟨l1,l2⟩:=W _ hx;show ap (NX i) (wu (by erw[hN,nd]) (by erw[hN,slot_get hi]) l1 l2) (q _ (by erw[qj,hl]) (λvs hvs=>ab5 (hvs (x,i) (by rw[e];simp))) (hv.set (by erw[hl,lj hi]) r) (λk hk=>ir (hk (x,i) (by rw[e];simp))))
 .ext x p y p2 k pos a b i j;let e:G5 Γ.N (.Tuple [.Name x p,.Name y p2] k pos)=aa [(x,i),(y,j)]:=by change(slot Γ.N x).bind _=_;erw[hi,eh (a7 _) hj]
  let⟨l1,l2⟩:=W _ hx;let⟨m1,m2⟩:=W _ hy;show ap (V9 Y.K 2 _) (afl hc (aaw (wu (by erw[hN,nd]) (by erw[hN,slot_get hi]) l1 l2) (aaw (wu (by erw[hN,nd]) (by erw[hN,slot_get hj]) m1 m2) afk))) (QY λz=>b7 r λ_ _ zq3_1 g1 g2=>?_);clear r;subst zq3_1;let⟨_,_,rfl,r1,g2⟩:=g2;let⟨_,_,rfl,r2,g2⟩:=g2;cases g2;apply z.f;show⟨_,_,rfl,AS.same hb g1,rfl,_,_,rfl,_,_,rfl,rfl,?_⟩;rw[e]at q;show q _ (by erw[qj,qj,hl]) (λvs hvs=>?_) ((hv.set (by erw[hl,lj hi]) r1).set (by erw[qj,hl,lj hj]) r2) (λk hk=>by walk);rw[ab5 (hvs (y,j) yS),ab5 (hvs (x,i) yS)]
def aoq(h:K1 N sc j own=ae)(hi:∀p∈own,N[p.2]?=aa p.1):N3 N sc j own:=by delta K1 at h;rw[cg,cg,cg]at h;let⟨⟨⟨h1,h2⟩,W⟩,h4⟩:=h;show⟨ff h1,λy q=>?_,hi,λy q=>?_,λy q=>?_⟩;all_goals grind
def agq(h:G5 N tg=aa own):∀p∈own,N[p.2]?=aa p.1:=by
 obtain⟨t,-,h⟩:=ay h;obtain q|q:=t;.let⟨i,hi,rfl⟩:=bo h;grind[slot_get]
 .let⟨i,hi,h⟩:=ay h;let⟨j,W,rfl⟩:=bo h;grind[slot_get]
noncomputable def bE(X:Cx)(j:cz)(e:Expr):TE:=λq H Q=>∀s W C cl fp,wE (X.fm s W j (ja j cl C X.env) fp) e q H Q
noncomputable def bT(X:Cx)(j:cz)(e:Expr):TT:=λq H Q=>∀s W C cl fp,wT (X.fm s W j (ja j cl C X.env) fp) e q H Q
noncomputable def bG(X:Cx)(j:cz)(tg:Expr):TG:=λv q H Q=>∀s W C cl fp,∃g,PG (X.fm s W j (ja j cl C X.env) fp) tg g/\g v q H Q
def a3s{st}{ds:ab D}(hd:ds[i]?=aa d)(h:A6 st (ds.drop i)=aa rest):
 (st d=aa af/\A6 st (ds.drop (i+1))=aa rest)\/∃y r,st d=aa (aa y)/\A6 st (ds.drop (i+1))=aa r/\rest=y::r:=by
 let e:ds.drop i=d::ds.drop (i+1):=by grind[yi]
 rw[e]at h;delta A6 at h;k_lt h;.lia
 .let⟨r,hr,rfl⟩:=bo h;lia
 lia
def agr(G:GX Γ X ae sc){elt tg iter}{ifs}{pos:Pos}{own}{j outs}{st}{ri}(hi:R4 Γ X η tg iter ri)(ei:ri=aa j)
 (hsl:G5 Γ.N tg=aa own)(hb:K1 Γ.N sc W own=ae)(hnm:W9 Γ.fi own=ae)(hset:IA iter=ae)(hc:A6 st j=aa outs)
 {tt}(pts:∀(s)(H)(C)(cl)(fp),HQ (X.fm s H W (ja W cl C X.env) fp) ifs tt)
 (hst:∀d o,st d=aa o->∃η',RV Γ.N W tg d (IT η (own.map (·.2)))=aa η'/\∀(O)(σ)(H)(Q),BU O H->VM Γ X.K O H σ η'->
   (∀H',AH H H'->Q o.isSome H')->tt σ H Q)
 (hel:∀d y,st d=aa (aa y)->∀η',RV Γ.N W tg d (IT η (own.map (·.2)))=aa η'->∀(O)(σ)(H)(Q),BU O H->VM Γ X.K O H σ η'->DG X.K Γ.cls O H Q y->bE X W elt σ H Q)
 {O}{σ}{H}{Q}(hO:BU O H)(hv:VM Γ X.K O H σ η)(hlen:σ.length=Γ.N.length)(q:∀p acc H',H p=af->AH H H'->H' p=aa (.lst acc)->AJ X.K Γ.cls (rs (λb=>O b||(b==p)) H') acc outs->Q (.ref p) H'):
 IL (wI X tg iter) (bG X W tg) tt (bE X W elt) (own.map (·.2)) σ H Q:=by
 show hi j ei O σ H _ hO hv λJ H1 s1 hsz Y Dd hD=>?_;let hO1:=hO.up s1;let hv1:=hv.up s1;let hbase:∀b o,rs O H1 b=aa o->(O b||(b==Dd))=false:=λb o e=>by
  let e2:=cq _ _ _ _ e;let nb:O b=false:=by
   cases z:O b with
   |false=>rfl
   |true=>delta rs at e;rw[aj z]at e;show nn e
  erw[nb,biy,i8.mpr (fw e2 hD)]
 show ap (λi m H2=>m=j.length-i/\i<=j.length/\∃acc dn rest,H2 Dd=aa (.lst acc)/\AH H1 H2/\AJ X.K Γ.cls (rs (λb=>O b||(b==Dd)) H2) acc dn/\A6 st (j.drop i)=aa rest/\dn++rest=outs/\acc.length<=i) ⟨j.length,rfl,gv _,[],[],outs,cy,AH.new hD,.nil,by simpa using hc,rfl,b8 _⟩ ?_;intro i m H2 y0;show QY λza=>d9 y0 λzq23_1 hile zq23_2=>fh zq23_2 λacc dn rest hacc s2 hdn zq23_3=>d9 zq23_3 λhrest hout hal=>?_;clear y0 zq23_2 zq23_3;subst zq23_1;let hbs:AH (rs O H1) H2:=(cq O H1).trans s2;by_cases hlt:i<j.length
 .apply za.f;show .inr ⟨Y.go i H2 hbs hlt,λH3=>i+1<=j.length/\∃acc dn rest,H3 Dd=aa (.lst acc)/\AH H1 H3/\AJ X.K Γ.cls _ acc dn/\A6 st (j.drop (i+1))=aa rest/\dn++rest=outs/\acc.length<=i+1,
   λH' hN=>⟨j.length-(i+1),by omega,rfl,hN.1,hN.2⟩,λx H3 yl=>QY λz9=>?_⟩;obtain⟨d,hd⟩:∃d,j[i]?=aa d:=⟨_,gz hlt⟩;let hO2:BU (λb=>O b||(b==Dd)) H2:=λb hb z=>by
   rw[jb]at hb;obtain hb|hb:=hb;.show hO1.up s2 b hb z
   .rw[eq_of_beq hb,hacc]at z;cases z
  let⟨s3,hx⟩:=Y.k7 i H2 x H3 d hbs yl hd;let hx:=hx _ hO2 hbase;let hO3:=hO2.up s3;let nslot:∀m∈Γ.fi,∀k,slot Γ.N m.x=aa k->k∉own.map (·.2):=λm hm k hk hin=>by let⟨p,hp,rfl⟩:=gx.mp hin;let h1:=agq hsl p hp;rw[slot_get hk]at h1;let h2:=mr.mp (mr.mp hnm m hm) p hp;show ff h2 (fo h1).symm
  let hm3:MR Γ X.K _ H3 _:=λm hm=>by show QY λz3=>nh (hv1.m m hm) λk a dx fs g1 g2 g3 g4 g5=>?_;apply z3.f;show vb k a dx fs g1 (by erw[ad3 (nslot m hm k g1),g2]) (s3 _ _ (s2 _ _ g3)) g4 (g5.up (ud (s2.trans s3|>(cq O H1).trans) hbase))
  let hst':∃o,st d=aa o/\((o=af/\A6 st (j.drop (i+1))=aa rest)\/∃y r,o=aa y/\A6 st (j.drop (i+1))=aa r/\rest=y::r):=by
   obtain⟨a,b⟩|⟨y,r,a,b,c⟩:=a3s hd hrest;.show⟨af,a,.inl ⟨rfl,b⟩⟩
   .show⟨aa y,a,.inr (dq y r rfl b c)⟩
  let⟨o,ho,hcase⟩:=hst';show au (hst d o ho) λη' ht htt=>?_;apply z9.f;show λs0 H0 C cl fp=>a3r (Γ:=Γ) (sc:=W) G.N G.nd G.calm (λx hx=>a3q hx s0 H0 C cl fp) ht (cq _ H3) hx ((hv1.v.up (ud (s2.trans s3|>(cq O H1).trans) hbase)).wipe _) (by erw[agp,hlen]) λσ2 hl2 hw hv2' hk2=>?_;let hv2:VM Γ X.K _ H3 σ2 η':=⟨hv2',λm hm=>by show QY λzz=>nh (hm3 m hm) λk a dx fs g1 g2 g3 g4 g5=>?_;apply zz.f;show vb k a dx fs g1 ?_ g3 g4 g5;erw[hk2 k (λp hp z=>nslot m hm k g1 (by rw[hsl]at hp;show z▸qp hp)),g2]⟩;show⟨(hw (own.map (·.2)) (λp hp=>by rw[hsl]at hp;show qp hp)).trans (aop _ _ λw hw=>hw),(htt _ σ2 H3 _ hO3 hv2 λH4 s4=>QY λz8=>?_)⟩;obtain⟨rfl,hr⟩|⟨y,r,rfl,hr,rfl⟩:=hcase;.apply z8.f;show⟨hlt,acc,dn,rest,s4 _ _ (s3 _ _ hacc),(s2.trans s3).trans s4,hdn.up ((AH.rs _ s3).trans (AH.rs _ s4)),hr,hout,yL⟩
  .apply z8.f;show hel d y ho η' ht _ σ2 H4 _ (hO3.up s4) (hv2.up s4) λv H5 s5 dv=>⟨acc,(s5 _ _ (s4 _ _ (s3 _ _ hacc))),av3 hal (jf hlt hsz),hlt,acc++[v],dn++[y],r,cy,?_,?_,hr,by erw[jl,hout],by simp;omega⟩;.intro b u e;erw[a9 (fw e hD),s5 _ _ (s4 _ _ (s3 _ _ (s2 _ _ e)))]
   .let z:AH (rs (λb=>O b||(b==Dd)) H5) (rs (λb=>O b||(b==Dd)) (upd H5 Dd (.lst (acc++[v])))):=λb u e=>by delta rs at e⊢;simp_all[aj,ao,jb,sk,a9,gp]
    show((hdn.up ((AH.rs _ s3).trans ((AH.rs _ s4).trans (AH.rs _ s5)))).snoc dv).up z
 .let e:i=j.length:=yL;subst e;apply za.f;show .inl ⟨Y.stop H2 hbs,?_⟩;rw[ZU]at hrest;clear za;cases hrest;rw[ip]at hout;subst hout;show q Dd acc H2 (AH.free s1 hD) (s1.trans s2) hacc hdn
def a3t{K}{cls}{O}{H H'}{p}{acc}{j}(W:BU O H)(hp:H p=af)(q:H' p=aa (.lst acc))(h:AJ K cls (rs (λb=>O b||(b==p)) H') acc j):Dr K cls (rs O H') (.ref p) (.lst j):=by
 let hDd:O p=false:=by
  cases e:O p with
  |false=>rfl
  |true=>show cj hp (W p e)
 show .lst ?_ (h.up λb u e=>?_);.grind[rs]
 grind[rs]
def aor(G:GX Γ X ae sc)(q:G5 Γ.N tg=aa own)(hb:K1 Γ.N sc j own=ae)(hset:IA iter=ae)
  (W:∀(s)(H)(C)(cl)(fp),HQ (X.fm s H j (ja j cl C X.env) fp) ifs tt):
 PE X (.ListComp elt [⟨tg,iter,ifs,0⟩] j pos) (IL (wI X tg iter) (bG X j tg) tt (bE X j elt) (own.map (·.2))):=
 a0b G.calm (by erw[G.N,G.nd]) (agi X tg iter) (by erw[G.N,G.K4 rfl,aoq hb (agq q)])
  (λs0 H0 C cl fp pins s σ H v u Q I r h=>au (h s0 H0 C cl fp) λg pg hg=>pg pins s σ H v u Q I r hg) W (λs0 H0 C cl fp pins s σ H Q I h=>h s0 H0 C cl fp pins s I) (λx=>by cases iter<;>first|trivial)
end
section
variable{Γ:Ctx}{X:Cx}{η:En}
def ad4(h:n<=1000):n<=sizeLine:=sg (a1p h)
def ll{x y:Str}(h:x≠y):(x==y)=false:=i8.mpr h
def aos(h:RU d ds=aa r):∃a l,d=.str a/\ds=[.lst l]/\((strsOf l).bind λys=>if(ys.map (·.length)).sum+ys.length*a.length<=16777216 then aa (.str (JX a ys))else af)=aa r:=by
 cases d<;>w_top h
 obtain _|⟨e,l⟩:=ds;.show nn h
 cases e<;>w_top h
 cases l<;>w_top h
 show dq _ _ rfl rfl h
def a3u(h:RU d ds=aa r):∃a,d=.str a:=jd (aos h) λa _ h _=>⟨a,h⟩
def aot(h:W2 d ds=aa r):(∃a,d=.str a)/\ds=[]:=by
 cases d<;>w_top h
 cases ds<;>w_top h
 simp
def a3v:N2 X "str.join" (WS X.K Γ.cls RU):=by
 show λpins s σ H x xs v us Q I rx rxs y0=>QY λz=>?_;let⟨O,d,ds,r,hO,hx,hxs,hf,a⟩:=y0;show b7 (aos hf) λ_ _ j q hf=>?_;subst j;subst q;let⟨ys,hy,hf⟩:=ay hf;k_lt hf<;>w_top hf
 ext hz;injection hf with hf;subst hf;cases ant hy;cases hx;let⟨w,rfl,h⟩:=one hxs;show b7 h λ_ _ W h1 h2=>?_;subst W;cases h2.strs;apply z.f;show a1l pins s σ H _ _ v us Q I rx rxs (aau _ _ ys rfl rfl (.inl (AR.of (cq _ _ _ _ h1))) hz (a.flat (.str _)))
def a3w:N2 X "str.split" (WS X.K Γ.cls W2):=by
 show λpins s W H x xs v us Q I rx j y0=>QY λz=>?_;let⟨O,d,ds,r,hO,hx,q,hf,a⟩:=y0;let⟨⟨_,rfl⟩,rfl⟩:=aot hf;change(if _ then _ else _)=_ at hf;k_lt hf<;>try grind
 ext hz;injection hf with hf;subst hf;cases hx;cases q;apply z.f;show anj pins s W H _ _ v us Q I rx j (wq _ rfl rfl hz (λp hp=>(a.lst hO hp (anv _))))
def ua(j:∀e∈es,notStar e=ae)(hl:es.length<20):
 ((kb pos (ed es env)).all (λx=>!x.1)&&(UR pos (US [] env)).all (λx=>x.1.isSome)&&decide (es.length+([]:ab MO).length+(if([]:ab MO).isEmpty then 0 else 1)<30))=true:=by rw[aob j,gm (show es.length+[].length+_<30 by simp;lia)];rfl
def a3x(h:DA Γ X η e r)(he:∀j,uk e X.env j=(do let v<-j;UK e.pos;QF [v] (truthy v))):K5 Γ X η e r:=λb W O σ H Q hO hv q=>
 PT.w (akr (cf X e) he) (h _ W O σ H _ hO hv λv H1 s1 d1=>by cases d1;show⟨_,rfl,q H1 s1⟩)
def aou:∀(ms),W8 fs sc x f ms=aa d->∃m∈ms,m.x=x/\GH sc x=ae/\(x≠"__debug__"/\x≠"__classdict__")/\(m.c,f)∈fs/\G4 m.ns m.l f=aa d
 |[],h=>nn h
 |m::ms,h=>by
  change(if _ then _ else _)=_ at h;k_lt h;.walk
  .show au (aou ms h) λj h1 h2=>ap j (dj _ h1) h2
def a3y(ms)(h:AAQ fs sc ms o f=aa d):∃m∈ms,∃x p,o=.Name x p/\m.x=x/\GH sc x=ae/\(x≠"__debug__"/\x≠"__classdict__")/\(m.c,f)∈fs/\G4 m.ns m.l f=aa d:=by obtain⟨⟨q,rfl⟩,-,h⟩:=ay h;show au (aou ms h) λm hm h=>⟨m,hm,_,_,rfl,h⟩
def aov(ihE:∀(X)(fl)(sc),GX Γ X fl sc->∀(η)(e),DA Γ X η e (A9 Γ n fl sc η e))(ihT:∀(X)(fl)(sc),GX Γ X fl sc->∀(η)(e),FH e=ae->K5 Γ X η e (A9 Γ n fl sc η e))
   (G:GX Γ X fl sc)     (h:A9 Γ (n+1) fl sc η (.ListComp elt [⟨tg,iter,ifs,0⟩] j pos)=aa d):
 ∃outs own tt,d=.lst outs/\fl=ae/\G5 Γ.N tg=aa own/\K1 Γ.N sc j own=ae/\W9 Γ.fi own=ae/\IA iter=ae/\
  (∀(s)(H)(C)(cl)(fp),HQ (X.fm s H j (ja j cl C X.env) fp) ifs tt)/\
  ∀(O)(σ)(H)(Q),BU O H->VM Γ X.K O H σ η->σ.length=Γ.N.length->
   (∀p acc H',H p=af->AH H H'->H' p=aa (.lst acc)->AJ X.K Γ.cls (rs (λb=>O b||(b==p)) H') acc outs->Q (.ref p) H')->
   IL (wI X tg iter) (bG X j tg) tt (bE X j elt) (own.map (·.2)) σ H Q:=by
 let iE:=ihE X fl sc G η;change(if(fl&&IA iter)=ae then _ else af)=_ at h;k_lt h
 .ext hfl;rw[cg]at hfl;let efl:=hfl.1;subst efl;let⟨own,hsl,h⟩:=ay h;let⟨items,hit,h⟩:=ay h
  .k_lt h
   .ext hb0;rw[cg]at hb0;show xA hb0 λhb hnm=>?_;let⟨outs,hc,rfl⟩:=bo h;let hI:=aom G (tg:=tg) iE iter;obtain _|⟨c,_|⟨c2,r⟩⟩:=ifs
    .show⟨outs,own,AAH,rfl,rfl,hsl,hb,hnm,hfl.2,λs H C cl fp=>amj,λO σ H Q hO hv hlen q=>agr (pos:=pos) G hI hit hsl hb hnm hfl.2 hc (λs H C cl fp=>amj) (λd o ho=>?_) (λd y hy W ht O σ H Q hO hv q=>?_) hO hv hlen q⟩;.let⟨W,ht,ho⟩:=ay ho;show ap W ht λO σ H Q hO hv q=>?_;let⟨y,_,rfl⟩:=bo ho;show q H (AH.refl H)
     .rw[ht]at hy;let⟨y',hy',e⟩:=bo hy;cases e;show λs0 H0 C cl fp=>ihE _ ag j (G.fm s0 H0 C cl fp) W elt y hy' O σ H Q hO hv q
    .show⟨outs,own,bT X j c,rfl,rfl,hsl,hb,hnm,hfl.2,λs H C cl fp=>amk λpins s' σ H Q I h=>h s _ C cl fp pins s' I,λO σ H Q hO hv hlen q=>agr (pos:=pos) G hI hit hsl hb hnm hfl.2 hc (λs H C cl fp=>amk λpins s' σ H Q I h=>h s _ C cl fp pins s' I) (λd o ho=>?_) (λd y hy W ht O σ H Q hO hv q=>?_) hO hv hlen q⟩
     .let⟨W,ht,ho⟩:=ay ho;show ap W ht λO σ H Q hO hv q s0 H0 C cl fp=>?_;simp only at ho;k_lt ho
      .ext htc;delta AI at ho;k_lt ho;.ext hcc;let⟨y,_,rfl⟩:=bo ho;show ihT _ ag j (G.fm s0 H0 C cl fp) W c htc ae hcc O σ H Q hO hv q
       .ext hcc;cases ho;show ihT _ ag j (G.fm s0 H0 C cl fp) W c htc ag hcc O σ H Q hO hv q
       .trivial
      .trivial
     .rw[ht,b5]at hy;simp only at hy;k_lt hy
      .delta AI at hy;k_lt hy;.let⟨y',hy',e⟩:=bo hy;cases e;show λs0 H0 C cl fp=>ihE _ ag j (G.fm s0 H0 C cl fp) W elt y hy' O σ H Q hO hv q
       .cases hy
       .trivial
      .trivial
    .show⟨outs,own,λζ ζ ζ=>il,rfl,rfl,hsl,hb,hnm,hfl.2,λs H C cl fp pins s' σ H Q I h=>h.elim,λO σ H Q hO hv hlen q=>agr (pos:=pos) (ifs:=c::c2::r) G hI hit hsl hb hnm hfl.2 hc (λs H C cl fp pins s' σ H Q I h=>h.elim) (λd o ho=>?_) (λd y hy W ht O σ H Q hO hv q=>?_) hO hv hlen q⟩;.let⟨W,ht,ho⟩:=ay ho;trivial
     .rw[ht]at hy;trivial
   .trivial
 .injection h
def a3z{K}{cls}{C}{g}{O}{H}{Q}{vs}{ds}{d}{E}(hO:BU O H)(d1:AJ K cls (rs O H) vs ds)(h:g ds=aa d)(q:DG K cls O H Q d){x dx}(W:H x=af)(ndx:H dx=af):
 RY K cls C g (.ref x::vs) (upd (upd H dx (.own x)) x (.ins C dx [])) (λv H2=>v=.bj/\Q (.ref x) H2) E:=by
 let sm:AH H (upd (upd H dx (.own x)) x (.ins C dx [])):=λb o e=>by rw[a9 (fw e W),a9 (fw e ndx)];omega
 let nOx:O x=false:=by
  cases z:O x with
  |false=>rfl
  |true=>show cj W (hO x z)
 show⟨λb=>O b||(b==x),ds,d,x,dx,vs,rfl,cy,yS,λb j z=>?_,d1.up λb o e=>?_,h,λH' sH dr=>⟨rfl,q _ H' (λb o e=>sH b o (fw e W) (sm _ _ e)) (dr.up λb o e=>?_)⟩⟩
 .rw[jb]at j;obtain j|j:=j;.show hO.up sm b j z
  grind[cy]
 .let nO:O b=false:=by simp_all[rs]
  let e2:=cq _ _ _ _ e;delta rs;erw[ao (by grind),sm _ _ e2]
 .delta rs at e⊢;grind
def aow{f g:ak->ak->a4}{a b c}{ra rb rc}(A:DA Γ X η a ra)(B:DA Γ X η b rb)(C:DA Γ X η c rc){x y z}(ha:ra=aa (.int x))(hb:rb=aa (.int y))(hc:rc=aa (.int z)){O}{W}{H}{Q}(hO:BU O H)(hv:VM Γ X.K O H W η)(q:DG X.K Γ.cls O H Q (.bl (f x y&&g y z))):WG (l6 λi j=>.bl (f i j)) (l6 λi j=>.bl (g i j)) (wE X a) (wE X b) (wE X c) W H Q:=by
 show agk A B ha hb hO hv λv w H1 s1 hO1 d1 d2=>?_;cases d1;cases d2;show⟨x,y,rfl,rfl,_,rfl,?_⟩;cases e:f x y with
 |true=>show C _ hc O W H1 _ hO1 (hv.up s1) λu H2 s2 d3=>?_;cases d3;rw[e]at q;show⟨y,z,rfl,rfl,q _ H2 (s1.trans s2) (.bl _)⟩
 |false=>rw[e]at q;show q _ H1 s1 (.bl _)
def ags(h:KU f g a b c=aa d):∃x y z,a=aa (.int x)/\b=aa (.int y)/\c=aa (.int z)/\d=.bl (f x y&&g y z):=by let⟨⟨x,_⟩,_,h⟩:=ay h;let⟨⟨y,_⟩,_,h⟩:=ay h;let⟨⟨z,_⟩,_,h⟩:=ay h;grind
def aox(h:RX o o' a b c=aa d):∃(x y z:ak)(f g:ak->ak->a4),a=aa (.int x)/\b=aa (.int y)/\c=aa (.int z)/\d=.bl (f x y&&g y z)/\(∀X,BS X (ia o) (l6 λi j=>.bl (f i j)))/\(∀X,BS X (ia o') (l6 λi j=>.bl (g i j)))/\∀e,behindInMarks o' e=false:=by
 delta RX at h;k_lt h;.let⟨rfl,rfl⟩:=‹_/\_›;let⟨x,y,z,h⟩:=ags h;show⟨x,y,z,_,_,h.1,h.2.1,h.2.2.1,h.2.2.2,λq=>adb,λq=>adb,afr⟩
 k_lt h;.let⟨rfl,rfl⟩:=‹_/\_›;let⟨x,y,z,h⟩:=ags h;show⟨x,y,z,_,_,h.1,h.2.1,h.2.2.1,h.2.2.2,λq=>ada,λq=>ada,afr⟩
 k_lt h<;>w_top h
 let⟨rfl,rfl⟩:=‹_/\_›;let⟨x,y,z,h⟩:=ags h;show⟨x,y,z,_,_,h.1,h.2.1,h.2.2.1,h.2.2.2,λq=>adb,λq=>ada,afr⟩
inductive O2(f:D->D->ah D)(a b:ah D)(r:D):Prop|mk(x)(y)(ha:a=aa x)(hb:b=aa y)(h:f x y=aa r):O2 f a b r
def o2(h:AG f a b=aa r):O2 f a b r:=by
 cases a<;>cases b<;>w_top h
 show⟨_,_,rfl,rfl,h⟩
inductive XF(f:Expr->ah D)(a:Expr)(d:D):ab U9->ab Expr->Prop
 |o(o)(b)(m:behindInMarks o b=ag)(h:O2 (AA o) (f a) (f b) d):XF f a d [o] [b]
 |t(o)(o')(b)(c)(h:RX o o' (f a) (f b) (f c)=aa d):XF f a d [o,o'] [b,c]
def aoy(h:XA f a j bs=aa d):XF f a d j bs:=by
 obtain _|⟨o,_|⟨_,_|_⟩⟩:=j<;>obtain _|⟨b,_|⟨_,_|_⟩⟩:=bs<;>w_top h
 .change(if _ then _ else _)=_ at h;cases m:behindInMarks o b with
  |false=>rw[m]at h;show .o _ _ m (o2 h)
  |true=>walk
 .show .t _ _ _ _ h
set_option tactic.hygienic true in
def aoz(iE:∀e,DA Γ X η e (f e)){lo}(j:RT (lo.map f)=aa l):∃t,PO X lo t/\∀(O)(W)(H)(R),BU O H->VM Γ X.K O H W η->(∀H',AH H H'->R l H')->t W H R:=by
 cases lo with
 |none=>obtain rfl:=fo j;show ap _ azn λO W H R ζ ζ q=>q H (AH.refl H)
 |some a=>
  show ap _ (azo (cf X a)) λO W H R hO hv q=>?_;delta RT at j;k_lt j;.trivial
  .ext i z;cases j;show iE a _ (fo z) O W H _ hO hv λw H2 s2 d2=>?_;cases d2;show⟨_,rfl,q H2 s2⟩
  .trivial
set_option tactic.hygienic true in
def jt(Γ):∀n,(∀(X)(fl)(sc),GX Γ X fl sc->∀(η)(e),DA Γ X η e (A9 Γ n fl sc η e))/\
 (∀(X)(fl)(sc),GX Γ X fl sc->∀(η)(e),FH e=ae->K5 Γ X η e (A9 Γ n fl sc η e)):=by
 intro n;induction n with
 |zero=>show⟨λX fl sc G η e d h=>(by cases h),λX fl sc G η e ζ d h=>(by cases h)⟩
 |succ n ih=>
  let⟨ihE,ihT⟩:=ih;let hE:∀X fl sc,GX Γ X fl sc->∀η e,DA Γ X η e (A9 Γ (n+1) fl sc η e):=by
   intro X fl sc G η e d h O σ H Q hO hv q;let iE:=ihE X fl sc G η;cases e<;>w_top h
   case Call g as k cpos=>
    cases k<;>w_top h
    change IV _ _ _ _ _ _=_ at h;delta IV at h;dsimp only at h;cases g<;>w_top h
    case Name x _=>
     cases as;.show nn h
     change(if _ then _ else _)=_ at h;k_lt h;.cases h
     .ext hn;rwa[sk]at hn;k_lt h
      .ext hgl;let⟨ds,hds,h⟩:=ay h
       .let ha:=λR k=>ab2 _ ds (λe ζ=>iE e) hds O σ H R hO hv k;let hs:=agl hds;delta AAN at h;k_lt h
        .ext g hg;obtain⟨f,fd,ps,h1,h2,h3,h4⟩|⟨C,f,fd,ps,j,h1,h2,h3,hj,h4⟩:=G.eg _ _ hg;.show PE.w (afu h4 G.room (G.gl _ hgl) h1 h2 h3 .nil wz (i6 X _) (ll hn.1) (dy (hs _ (d7 ..))) (w6 λe he=>hs e (dj _ he))) (ha _ λvs H1 W d1=>?_);erw[ip,⟨O,ds,d,hO.up W,d1,h,q.after W⟩]
         .show PE.w (alh h2 h4 (G.room.mono hj) (G.gl _ hgl) h1 h3 .nil wz (i6 X _) (ll hn.1) (dy (hs _ (d7 ..))) (w6 λe he=>hs e (dj _ he))) (ha _ λvs H1 W d1=>?_);intro x dx nx ndx nxd;erw[ip,a3z (hO.up W) d1 h (q.after W) nx ndx]
        .let⟨g,hg,hd⟩:=ay h;show a29 G hg hgl hs hd hO q ha
      .cases h
    case Attribute o m apos=>
     change(if _ then _ else _)=_ at h;k_lt h
     .ext hc;rw[cg,cg]at hc;let⟨⟨hb,hln⟩,hfew⟩:=hc;delta K2 at h;k_lt h
      .ext d0 ds ho hds;let hs:=agl hds;delta AAP at h;k_lt h;.ext em;subst em;let⟨a0,e0⟩:=a3u h;subst e0;cases as with
        |nil=>cases hds;cases h
        |cons a as=>show PE.w (vh ajn F.slot_str_join F.type_str_join (a3v (Γ:=Γ)) (cf X o) (i6 X (a::as)) (kl hb) (ua hs (ff hfew)) hln (dy (hs _ (d7 ..))) (w6 λe he=>hs e (dj _ he))) (iE o _ ho O σ H _ hO hv λv H1 W d1=>?_);cases d1;show⟨rfl,ab2 _ ds (λe ζ=>iE e) hds O σ H1 _ (hO.up W) (hv.up W) λvs H2 s2 d2=>⟨O,_,ds,d,(hO.up W).up s2,.str _,d2,h,(q.after W).after s2⟩⟩
       .k_lt h;.ext em;subst em;let⟨⟨a0,e0⟩,e1⟩:=aot h;subst e0 e1;cases as with
         |nil=>show PE.w (al5 ajn av2 biz (a3w (Γ:=Γ)) (cf X o) (kl hb) hln) (iE o _ ho O σ H _ hO hv λv H1 W d1=>?_);cases d1;show⟨rfl,O,_,[],d,hO.up W,.str _,.nil,h,q.after W⟩
         |cons a as=>let:=zu hds;simp at this
        .k_lt h
         .ext em;subst em;delta AAO at h;k_lt h;.ext ks l dk dx;let⟨kk,hkk,rfl⟩:=bo h;match as,hds,hs,hfew with
           |[],hds,_,_=>cases hds
           |[a],hds,_,_=>let:=zu hds;simp at this
           |a::b::c::r,hds,_,_=>let:=zu hds;simp at this
           |[a,b],hds,hs,hfew=>
            show j6 (ab1 hds) λn1 da ra ha hds1 e1=>j6 (ab1 hds1) λn2 db rb hb2 hds2 e2=>?_;cases hds2;cases e2;cases e1;let tr:kb cpos (ed [a,b] X.env)=[(ag,eval a X.env),(ag,eval b X.env)]:=by rw[dy n1,dy n2];rfl
            show PE.w (a0w (cf X o) (cf X a) (cf X b) ⟨kl hb,by rw[tr];rfl,hln,tr⟩) (iE o _ ho O σ H _ hO hv λv H1 W d1=>fg d1 λ_ _ zq47_1 g1 g2 g3=>?_);clear d1;subst zq47_1;ext kvs;show et _ rfl ⟨_,.inl (cq _ _ _ _ g1)⟩ (iE a _ ha O σ H1 _ (hO.up W) (hv.up W) λv2 H2 s2 d2=>iE b _ hb2 O σ H2 _ ((hO.up W).up s2) ((hv.up W).up s2) λv3 H3 s3 d3=>?_);let e:=ab3 hkk d2;subst e;subst g2;show ap _ (FD.k (k:=kk) (s3 _ _ (s2 _ _ (cq _ _ _ _ g1)))) ?_;let⟨i1,i2⟩:=adz (k:=kk) _ _ g3;show q _ H3 ((W.trans s2).trans s3) ?_;cases hz:CT (kvs.map (·.1)) l kk with
            |none=>erw[i2 hz,d3]
            |some z=>show au (i1 z hz) λw hw dw=>?_;erw[hw,(dw.up (AH.rs O s2)).up (AH.rs O s3)]
          .cases h
         .cases h
      .cases h
     .cases h
   all_goals change IV _ _ _ _ _ _=_ at h;delta IV at h;dsimp only at h
   .ext o es p;cases o with
    |And=>show snd_and _ (λe ζ=>iE e) d h O σ H Q hO hv q
    |Or=>show aoc _ (λe ζ=>iE e) d h O σ H Q hO hv q
   .delta biE at h;k_lt h;.let⟨x,y,ha,hb,h⟩:=o2 h;show PE.w (afq (ano (cls:=Γ.cls)) (cf X _) (cf X _)) (ab0 (iE _) (iE _) ha hb h hO hv q)
    .let⟨x,y,ha,hb,h⟩:=o2 h;show PE.w (afq (a1z (cls:=Γ.cls)) (cf X _) (cf X _)) (ab0 (iE _) (iE _) ha hb h hO hv q)
    .cases h
   .delta unE at h;k_lt h
    .delta K3 at h;k_lt h;.ext i hb;cases h;show PE.w (ak2 ak4 (cf X _)) (iE _ _ hb O σ H _ hO hv λv H1 W d1=>?_);cases d1;show⟨i,rfl,q _ H1 W (.int _)⟩
     .cases h
    .delta BA at h;k_lt h;.ext b hb;cases h;show PE.w (ayc (cf X _)) (iE _ _ hb O σ H _ hO hv λv H1 W d1=>?_);cases d1;show ap b rfl (q _ H1 W (.bl _))
     .cases h
    .cases h
   .k_lt h
    .ext ht;delta AI at h;k_lt h;.ext hc;show PE.w (ac7 (nq X _) (cf X _) (cf X _)) (ihT X fl sc G η _ ht _ hc O σ H _ hO hv λH1 W=>?_);erw[aj rfl,iE _ d h O σ H1 Q (hO.up W) (hv.up W) (q.after W)]
     .ext hc;show PE.w (ac7 (nq X _) (cf X _) (cf X _)) (ihT X fl sc G η _ ht _ hc O σ H _ hO hv λH1 W=>?_);erw[ao gy,iE _ d h O σ H1 Q (hO.up W) (hv.up W) (q.after W)]
     .cases h
    .cases h
   .ext elt gs scope p;delta lcE at h;k_lt h;.show fh (aov ihE ihT G (pos:=p) h) λouts own tt zq41_1 zq41_2 hsl zq41_3=>jc zq41_3 λhb hnm hset pts rd=>?_;subst zq41_1;subst zq41_2;show λpins s I=>aor (pos:=p) (elt:=elt) G hsl hb hset pts pins s σ H Q I (rd O σ H Q hO hv (by rw[I.len,G.N]) λp acc H' hp s' hacc h=>q _ _ s' (a3t hO hp hacc h))
    .cases h
   .let z:=aoy h;clear h;cases z with
    |o o b hm h=>let⟨x,y,ha,hb,h⟩:=h;show PE.w (ak6 (aof G _) (cf X _) (cf X _) hm) (ab0 (iE _) (iE _) ha hb h hO hv q)
    |t o o' b c h=>show iy (aox h) λx y zq40_1=>fh zq40_1 λz f g ha hb hc zq40_2=>ly zq40_2 λzq40_3 r1 r2 m=>?_;clear zq40_1 zq40_2;subst zq40_3;show PE.w (ayu (r1 _) (r2 _) (cf X _) (cf X _) (cf X _) (m _)) (aow (iE _) (iE _) (iE _) ha hb hc hO hv q)
   .ext c _ _;cases c<;>w_top h
    all_goals cases h;first|show PE.w abm (q.flat (.int _))|show PE.w ax7 (q.flat (.str _))|show PE.w ax6 (q.flat (.bl _))|show PE.w akp (q.flat .bj)
   .ext o f p;k_lt h
    .ext hb;delta AAR at h;k_lt h;.ext d0 hmg;cases h;show au (a3y Γ.fi hmg) λm hm zq39_1=>lg zq39_1 λx p0 zq39_2 hx hvis hn zq39_3=>xA zq39_3 λhf hfd=>?_;clear zq39_1 zq39_3;subst zq39_2;show nh (hv.m m hm) λi a dx fs g1 g2 g3 g4 g5=>?_;let⟨c1,c2⟩:=G.DZ _ _ hf;rw[hx]at g1;rw[<-g4]at hfd;show au (ad0 _ _ g5 hfd) λw hw dw=>PE.w (aft (js (by erw[G.N,slot_get g1]) (G.nt _ hvis) (ll hn.1) (ll hn.2)) (kl hb)) ⟨_,g2,_,_,_,_,w,rfl,g3,c1,c2,hw,q _ H (AH.refl H) dw⟩
     delta A8 at h;k_lt h
     .ext c ns l ho;k_lt h;.ext hf;let⟨c1,c2⟩:=G.DZ _ _ hf;show PE.w (aft (cf X o) (kl hb)) (iE o _ ho O σ H _ hO hv λv H1 W d1=>QY λzz=>fh d1 λ_ _ _ zq34_1 g1 g2 g3=>?_);clear d1;subst zq34_1;subst g2;let⟨w,hw,dw⟩:=ad0 _ _ g3 h;apply zz.f;show⟨_,_,_,_,w,rfl,cq _ _ _ _ g1,c1,c2,hw,q _ H1 W dw⟩
      .cases h
     .cases h
    .cases h
   .ext o i p;delta sbE at h;k_lt h
    .delta BZ at h;k_lt h;.ext d0 l u ho hlo hhi;show au (aoz iE hlo) λtl pl ql=>au (aoz iE hhi) λtu pu qu=>PE.w (azp (sld (cls:=Γ.cls)) (cf X o) pl pu) (iE o _ ho O σ H _ hO hv λv H1 W d1=>ql O σ H1 _ (hO.up W) (hv.up W) λH2 s2=>qu O σ H2 _ ((hO.up W).up s2) ((hv.up W).up s2) λH3 s3=>⟨O,d0,d,((hO.up W).up s2).up s3,(d1.up (AH.rs O s2)).up (AH.rs O s3),h,((q.after W).after s2).after s3⟩)
     .cases h
    .k_lt h
     .ext hs;let⟨a,b,ha,hb,h⟩:=o2 h
      .delta AB at h;k_lt h;.let⟨k,hk,hd⟩:=ay h;show PE.w (a0p (cf X o) (cf X i) (agj hs)) (agk (iE o) (iE i) ha hb hO hv λv w H' s' hO' d1 d2=>?_);let e:=ab3 hk d2;subst e;show fg d1 λ_ _ zq30_1 g1 g2 g3=>?_;clear d1;subst zq30_1;subst g2;show au ((adz (k:=k) _ _ g3).1 d hd) λz hz dz=>dq _ z rfl ?_ (q _ H' s' dz);let:=FD.k (k:=k) (cq _ _ _ _ g1);rw[hz]at this;show this
       .show PE.w (afy (ixd (cls:=Γ.cls)) (cf X o) (cf X i) (agj hs)) (ab0 (iE o) (iE i) ha hb h hO hv q)
     .cases h
   .k_lt h;.cases h
    .ext hn;rwa[sk]at hn;k_lt h;.ext hvis;let⟨i,hi,hg⟩:=ay h;let⟨v,h1,h2⟩:=hv.v i d (getD_some hg);show PE.w (js (by erw[G.N,slot_get hi]) (G.nt _ hvis) (ll hn.1) (ll hn.2.1)) ⟨v,h1,q.flat h2⟩
     .k_lt h
      .ext hgl;k_lt h;.ext d' hc;cases h;show b7 (G.gq _ _ hc) λv u h1 h2 h3=>PE.w (akq (G.gl _ hgl) h1 h2 (ll hn.1)) (q.flat (h3 _))
       .delta AAL at h;k_lt h;.ext e;subst e;cases h;show PE.w (afh (v:=.ty "int") (G.gl _ hgl) (G.gu _ yD) bim rfl hn.2.2 (ll hn.1)) (q.flat (.ty _))
        k_lt h;.ext e;subst e;cases h;show PE.w (afh (v:=.ty "str") (G.gl _ hgl) (G.gu _ (by decide)) bio rfl hn.2.2 (ll hn.1)) (q.flat (.ty _))
        k_lt h;.ext e;subst e;cases h;show PE.w (afh (v:=.ty "tuple") (G.gl _ hgl) (G.gu _ (by decide)) bil rfl hn.2.2 (ll hn.1)) (q.flat (.ty _))
        cases h
      .cases h
   .ext es p;k_lt h;.ext hl;let⟨ds,hds,rfl⟩:=bo h;show PE.w (ph (i6 X es)) (ab2 es ds (λe ζ=>iE e) hds O σ H _ hO hv λvs H1 W d1=>⟨?_,λp hp=>(q.after W).lst (hO.up W) hp d1⟩);erw[d1.length,zu hds,ad4 hl]
    .cases h
   .ext es k p;k_lt h;.ext hl;let⟨ds,hds,rfl⟩:=bo h;show PE.w (azd (i6 X es)) (ab2 es ds (λe ζ=>iE e) hds O σ H _ hO hv λvs H1 W d1=>⟨?_,λp hp=>(q.after W).tup (hO.up W) hp d1⟩);erw[d1.length,zu hds,ad4 hl]
    .cases h
  show⟨hE,?_⟩;intro X fl sc G η e ht;let hv:=hE X fl sc G η e;let iT:=ihT X fl sc G η;cases e<;>try show nb ht
  .ext op es p;let hall:∀e∈es,K5 Γ X η e (A9 Γ n fl sc η e):=by
    let key:∀es,W7 es=ae->∀e∈es,FH e=true:=by
     intro es;induction es with
     |nil=>intro _ e he;cases he
     |cons e0 es ih=>
      intro h e he;change(_&&_)=ae at h;rw[cg]at h;obtain rfl|he:=df.mp he;.show h.1
      .show ih h.2 e he
    show λe he=>iT e (key es ht e he)
   intro k h O σ H Q hO hv' q;cases op with
   |And=>show λpins s I=>aod (pos:=p) es hall k h O σ H Q hO hv' q _ pins s I
   |Or=>show λpins s I=>aoe (pos:=p) es hall k h O σ H Q hO hv' q _ pins s I
  .ext o a p;cases o<;>try show nb ht
   intro k h O σ H Q hO hv' q;rw[show A9 Γ (n+1) fl sc η (.UnaryOp .Not a p)=(match A9 Γ n fl sc η a with
    |some (.bl b)=>aa (.bl (!b))
    |_=>af)from rfl]at h;k_lt h;.ext b hb;cases h;show PT.w (aku (nq X a)) (iT a ht b hb O σ H _ hO hv' λH1 W=>q H1 W)
   .cases h
  .ext a ops bs p;intro k h O σ H Q hO hv' q;let iE:=ihE X fl sc G η;change XA _ a ops bs=_ at h;let z:=aoy h;clear h;clear ht hv;cases z with
   |o o b hm h=>let⟨x,y,ha,hb,h⟩:=h;show PT.w (ak7 (aof G _) (cf X _) (cf X _) hm) (ab0 (iE _) (iE _) ha hb h hO hv' λv H1 W d1=>?_);cases d1;show⟨k,rfl,q H1 W⟩
   |t o o' b c h=>show iy (aox h) λx y zq24_1=>fh zq24_1 λz f g ha hb hc zq24_2=>ly zq24_2 λe r1 r2 m=>?_;clear zq24_1 zq24_2;cases e;show PT.w (ayv (r1 _) (r2 _) (cf X _) (cf X _) (cf X _) (m _)) (aow (iE _) (iE _) (iE _) ha hb hc hO hv' λv H' s' d'=>by cases d';show⟨_,rfl,q H' s'⟩)
  all_goals show a3x hv (by intro _;rfl)
end
inductive TV where
 |v(d:D)|l(xs:ab D)
abbrev Tk:=ab (ab CI×TV)
inductive Sl where
 |no|val(d:D)|own(l:ab D)
 |ij(ks:ab Key)(l:ab D)|gg(ls:ab (ab D))
 |tk(es:Tk)
deriving Inhabited
inductive Out where
 |next(A:ab Sl)|ret(d:D)
noncomputable def Sl.v:Sl->ah D
 |.val d=>aa d
 |_=>af
noncomputable def vals(A:ab Sl):En:=A.map Sl.v
noncomputable def Sl.fz:Sl->Sl
 |.own l=>.val (.lst l)
 |.ij ks l=>.val (.d8 ks l)
 |.gg j=>.val (.lst (j.map D.lst))
 |.tk _=>.no
 |s=>s
def Sl.EF:Sl->a4
 |.own _=>ae
 |.ij _ _=>ae
 |.gg _=>ae
 |.tk _=>ae
 |_=>ag
def E2(A:ab Sl):ab Sl:=A.map Sl.fz
def AN:ab Str->ab Str->ab Sl->ab Sl
 |n::N,us,s::A=>(if n∈us then s.fz else s)::AN N us A
 |_,_,A=>A
mutual
def AL:Expr->ab Str
 |.Name x _=>[x]
 |.Attribute e _ _=>AL e
 |.Subscript a b _=>AL a++AL b
 |.Slice lo hi _ _=>AAU lo++AAU hi
 |.Tuple es _ _=>F3 es
 |.List es _=>F3 es
 |.BinOp a _ b _=>AL a++AL b
 |.UnaryOp _ a _=>AL a
 |.BoolOp _ es _=>F3 es
 |.IfExp a b c _=>AL a++AL b++AL c
 |.Compare a _ bs _=>AL a++F3 bs
 |.Call f as _ _=>AL f++F3 as
 |.ListComp e j _ _=>AL e++AAV j
 |_=>[]
def F3:ab Expr->ab Str
 |[]=>[]
 |e::es=>AL e++F3 es
def AAU:ah Expr->ab Str
 |none=>[]
 |some e=>AL e
def AAV:ab bij->ab Str
 |[]=>[]
 |⟨_,q,ifs,_⟩::j=>AL q++F3 ifs++AAV j
end
def AU(f:D->ab Sl->ah Out):ab D->ab Sl->ah Out
 |[],A=>aa (.next A)
 |d::ds,A=>match f d A with
  |some (.next ξ')=>AU f ds ξ'
  |some (.ret r)=>aa (.ret r)
  |none=>af
def IW:Expr->a4
 |.ListComp _ _ _ _=>ae
 |.SetComp _ _ _ _=>ae
 |.DictComp _ _ _ _ _=>ae
 |_=>ag
def IX:ab Str->cz->Expr->D->ab Sl->ah (ab Sl):=W3 .val
def F4:ah D->ah (ab D)
 |some (.lst l)=>aa l
 |_=>af
noncomputable def ownOf:ah Sl->ah (ab D)
 |some (.own l)=>aa l
 |_=>af
def BO(r:ah Out)(k:ab Sl->ah Out):ah Out:=match r with
 |some (.next A)=>k A
 |some (.ret d)=>aa (.ret d)
 |none=>af
def EQ(ms:ab dh)(x:Str):Bool:=ms.all λm=>decide (m.x≠x)
def GJ(ms:ab dh):Expr->a4
 |.Name x _=>EQ ms x
 |.Tuple [.Name x _,.Name y _] _ _=>EQ ms x&&EQ ms y
 |_=>ag
def R5:ah Sl->ah (ab Key×ab D)
 |some (.ij ks l)=>aa (ks,l)
 |_=>af
def K8:ah Sl->ah (ab (ab D))
 |some (.gg j)=>aa j
 |_=>af
def R6:ah D->ah (ab Key×ab D)
 |some (.d8 ks l)=>aa (ks,l)
 |_=>af
def F5:ah D->ah (ab D)
 |some (.lst l)=>aa l
 |some (.tup l)=>aa l
 |_=>af
def D1(ks:ab Key)(k:Key):ab Key:=if ks.any (λx=>decide (x=k))then ks else ks++[k]
def R7:ab Key->ab D->Key->D->ab D
 |k::ks,x::l,k0,d=>(if k=k0 then d else x)::R7 ks l k0 d
 |_,l,_,_=>l
def E4(ks:ab Key)(l:ab D)(k:Key)(d:D):ab D:=if ks.any (λx=>decide (x=k))then R7 ks l k d else l++[d]
noncomputable def isNil:Expr->a4
 |.List [] _=>ae
 |_=>ag
noncomputable def bump(l:ab D)(j:ak)(b:ah D):ah (ab D):=match DU l.length j,b with
 |some i,aa (.int y)=>(match l[i]? with
  |some (.int x)=>aa (l.set i (.int (x+y)))
  |_=>af)
 |_,_=>af
def B5(sc:cz)(x:Str):Bool:=GH sc x&&decide (x≠"__debug__"/\x≠"__classdict__")
def CG(r:ah Out):ah (ab Sl):=match r with
 |some (.next A)=>aa A
 |_=>af
def IY:ah Sl->ah Tk
 |some (.tk es)=>aa es
 |_=>af
def G6:ah D->ah (ab CI)
 |some (.tup l)=>IS l
 |_=>af
def ES(es:Tk)(k:ab CI):Bool:=es.any λe=>decide (e.1=k)
def ET(es:Tk)(k:ab CI)(t:TV):Tk:=if ES es k then es.map (λe=>if e.1=k then(e.1,t)else e)else es++[(k,t)]
def K9(es:Tk)(k:ab CI)(d:D):ah Tk:=match es.find? λe=>decide (e.1=k)with
 |none=>aa (es++[(k,.l [d])])
 |some (_,.l xs)=>if xs.length<aw then aa (es.map λe=>if e.1=k then(e.1,.l (xs++[d]))else e)else af
 |some (_,.v _)=>af
def IC:Tk->ah (ab D)
 |[]=>aa []
 |(_,.l xs)::r=>(IC r).map (.lst xs::.)
 |(_,.v _)::_=>af
def LA(Γ:Ctx)(sc:cz)(n:ai)(q:ab Sl->ab Stmt->(ab Sl->ah Out)->ah Out)(A:ab Sl)(tg iter:Expr)(body:ab Stmt)(k:ab Sl->ah Out):ah Out:=
 if IA iter&&GJ Γ.fi tg then(KZ sc (A9 Γ n ae sc (vals (AN Γ.N (AL iter) A))) tg iter).bind λj=>
  BO (AU (λd ξ'=>(IX Γ.N sc tg d ξ').bind λξ2=>q ξ2 body λξ3=>aa (.next ξ3)) j (AN Γ.N (AL iter) A)) k else af
def LB(a:ah D)(es:Tk):ah D:=(G6 a).map λk=>.bl (!ES es k)
def ADT(sc:cz)(e:Expr):ah {a//∃p c,e=.Call (.Name "dict" p) [a] [] c/\EO sc "dict"=ae/\notStar a=ae}:=match e with
 |.Call (.Name f p) [a] [] c=>if h:f="dict"/\EO sc "dict"=ae/\notStar a=ae then aa ⟨a,p,c,by rw[h.1],h.2⟩else af
 |_=>af
def XG(e:Expr):ah {q:Str×Pos×Str×Pos×Pos//e=.Call (.Attribute (.Name q.1 q.2.1) q.2.2.1 q.2.2.2.1) [] [] q.2.2.2.2}:=match e with
 |.Call (.Attribute (.Name x p) m a) [] [] c=>aa ⟨(x,p,m,a,c),rfl⟩
 |_=>af
noncomputable def vAn(e:Expr):ah {q:Expr×Expr×Pos//e=.BoolOp .And [q.1,q.2.1] q.2.2}:=match e with
 |.BoolOp .And [a,b] p=>aa ⟨(a,b,p),rfl⟩
 |_=>af
noncomputable def vNi(e:Expr):ah {q:Expr×Expr×Pos//e=.Compare q.1 [.NotIn] [q.2.1] q.2.2}:=match e with
 |.Compare a [.NotIn] [b] p=>aa ⟨(a,b,p),rfl⟩
 |_=>af
def AAW(e:Expr):ah {q:Str×Pos×Pos×Pos//e=.Call (.Attribute (.Name q.1 q.2.1) "pop" q.2.2.1) [] [] q.2.2.2/\(q.2.2.1.endLine==q.2.2.2.line)=ae}:=(XG e).bind λ⟨q,g⟩=>if h:q.2.2.1="pop"/\(q.2.2.2.1.endLine==q.2.2.2.2.line)=ae then aa ⟨(q.1,q.2.1,q.2.2.2.1,q.2.2.2.2),h.1▸g,h.2⟩else af
def IZ(sc:cz)(N:ab Str)(A:ab Sl)(e:Expr):ah (ai×ab D):=(XG e).bind λ⟨q,_⟩=>if B5 sc q.1&&(q.2.2.2.1.endLine==q.2.2.2.2.line)&&decide (q.2.2.1="values")then(slot N q.1).bind λi=>(IY A[i]?).bind λes=>(IC es).map λl=>(i,l)else af
def XH(sc:cz)(N:ab Str)(A:ab Sl)(e:Expr):ah (Expr×Expr×Tk):=(vAn e).bind λ⟨q,_⟩=>(vNi q.2.1).bind λ⟨r,_⟩=>(FG r.2.1).bind λ⟨x,_⟩=>if B5 sc x.1&&FH q.1 then(slot N x.1).bind λi=>(IY A[i]?).map λes=>(q.1,r.1,es)else af
def AAX:Expr->a4
 |.List es _=>(match es with
  |[e]=>isNil e
  |_=>ag)
 |_=>ag
def AAY(e:Expr):ah {q:ab Expr×Pos//e=.List q.1 q.2}:=match e with
 |.List es p=>aa ⟨(es,p),rfl⟩
 |_=>af
def AAZ(e:Expr):ah {q:Expr×Expr×Expr×ab Expr×cz×Pos//e=.ListComp q.1 [⟨q.2.1,q.2.2.1,q.2.2.2.1,0⟩] q.2.2.2.2.1 q.2.2.2.2.2}:=match e with
 |.ListComp elt [⟨tg,iter,ifs,0⟩] j p=>aa ⟨(elt,tg,iter,ifs,j,p),rfl⟩
 |_=>af
noncomputable def vM1(e:Expr):ah {q:Expr×Str×Pos×Expr×Pos//e=.Call (.Attribute q.1 q.2.1 q.2.2.1) [q.2.2.2.1] [] q.2.2.2.2}:=match e with
 |.Call (.Attribute o m p) [a] [] c=>aa ⟨(o,m,p,a,c),rfl⟩
 |_=>af
noncomputable def vM2(e:Expr):ah {q:Expr×Str×Pos×Expr×Expr×Pos//e=.Call (.Attribute q.1 q.2.1 q.2.2.1) [q.2.2.2.1,q.2.2.2.2.1] [] q.2.2.2.2.2}:=match e with
 |.Call (.Attribute o m p) [a,b] [] c=>aa ⟨(o,m,p,a,b,c),rfl⟩
 |_=>af
def AA0(e:Expr):ah {q:Expr×Expr×Pos//e=.Subscript q.1 q.2.1 q.2.2}:=match e with
 |.Subscript o i p=>aa ⟨(o,i,p),rfl⟩
 |_=>af
noncomputable def vInt(e:Expr):ah {q:ak×ai×Pos//e=.Constant (.int q.1) q.2.1 q.2.2}:=match e with
 |.Constant (.int j) k p=>aa ⟨(j,k,p),rfl⟩
 |_=>af
def AA1(e:Expr):ah {q:ab (ah Expr)×ab Expr×Pos//e=.Dict q.1 q.2.1 q.2.2}:=match e with
 |.Dict ks vs p=>aa ⟨(ks,vs,p),rfl⟩
 |_=>af
def AA2(e:Expr):ah {q:Str×Pos×ai×Pos×Pos×Pos//e=.Subscript (.Name q.1 q.2.1) (.UnaryOp .USub (.Constant (.int 1) q.2.2.1 q.2.2.2.1) q.2.2.2.2.1) q.2.2.2.2.2}:=match e with
 |.Subscript (.Name x p) (.UnaryOp .USub (.Constant (.int 1) a b) c) d=>aa ⟨(x,p,a,b,c,d),rfl⟩
 |_=>af
def G7(e:ab CI×TV):Bool:=match e.2 with
 |.v _=>ae
 |.l _=>ag
def AA3:Expr->a4
 |.Constant (.str _) _ _=>ae
 |_=>ag
section
variable(Γ:Ctx)(sc:cz)(n:ai)(A:ab Sl)(k:ab Sl->ah Out)
def XI(e:Expr)(i:ai):ah Out:=if IW e then af else match ADT sc e with
 |some ⟨a,_⟩=>(R6 (A9 Γ n ae sc (vals (AN Γ.N (AL a) A)) a)).bind λp=>k ((AN Γ.N (AL a) A).set i (.ij p.1 p.2))
 |none=>(A9 Γ n ae sc (vals (AN Γ.N (AL e) A)) e).bind λd=>k ((AN Γ.N (AL e) A).set i (.val d))
def XJ(x:Str)(e:Expr)(i:ai):ah Out:=match AAW e with
 |some ⟨q,_⟩=>if B5 sc q.1&&decide (q.1≠x)then(slot Γ.N q.1).bind λj=>(K8 A[j]?).bind λW=>(W.getLast?).bind λl=>k ((A.set j (.gg W.dropLast)).set i (.own l))else af
 |none=>XI Γ sc n A k e i
def XM(x:Str)(e:Expr)(i:ai):ah Out:=match AA1 e with
 |some ⟨q,_⟩=>(match q.1,q.2.1 with
  |[],[]=>k (A.set i (.tk []))
  |[aa j],[W]=>((A9 Γ n ae sc (vals (AN Γ.N (AL j++AL W) A)) j).bind keyOf).bind λkk=>(A9 Γ n ae sc (vals (AN Γ.N (AL j++AL W) A)) W).bind λd=>k ((AN Γ.N (AL j++AL W) A).set i (.ij [kk] [d]))
  |_,_=>af)
 |none=>XJ Γ sc n A k x e i
def XN(x:Str)(e:Expr)(i:ai):ah Out:=match AAZ e with
 |some _=>(F4 (A9 Γ n ae sc (vals (AN Γ.N (AL e) A)) e)).bind λl=>k ((AN Γ.N (AL e) A).set i (.own l))
 |none=>XM Γ sc n A k x e i
def XO(x:Str)(e:Expr)(i:ai):ah Out:=match AAY e with
 |some ⟨q,_⟩=>(F4 (A9 Γ n ae sc (vals (AN Γ.N (F3 q.1) A)) e)).bind λl=>k ((AN Γ.N (F3 q.1) A).set i (.own l))
 |none=>XN Γ sc n A k x e i
def R8(x:Str)(e:Expr):ah Out:=if C1 sc x&&EQ Γ.fi x then(slot Γ.N x).bind λi=>if AAX e then k (A.set i (.gg [[]]))else XO Γ sc n A k x e i else af
def XQ(x:Str)(q j:Expr):ah Out:=if B5 sc x&&!IW j then(slot Γ.N x).bind λi=>(match IY (AN Γ.N (AL q++AL j) A)[i]? with
 |some es=>(A9 Γ n ae sc (vals (AN Γ.N (AL q++AL j) A)) j).bind λd=>(G6 (A9 Γ n ae sc (vals (AN Γ.N (AL q++AL j) A)) q)).bind λW=>if es.length<aw/\es.all G7=ae then k ((AN Γ.N (AL q++AL j) A).set i (.tk (ET es W (.v d))))else af
 |none=>(R5 (AN Γ.N (AL q++AL j) A)[i]?).bind λp=>(A9 Γ n ae sc (vals (AN Γ.N (AL q++AL j) A)) j).bind λd=>((A9 Γ n ae sc (vals (AN Γ.N (AL q++AL j) A)) q).bind keyOf).bind λW=>
 if p.1.length<aw then k ((AN Γ.N (AL q++AL j) A).set i (.ij (D1 p.1 W) (E4 p.1 p.2 W d)))else af)else af
def R9(x m:Str)(a:Expr):ah Out:=if B5 sc x then(slot Γ.N x).bind λi=>
 (match K8 (AN Γ.N (AL a) A)[i]? with
 |some q=>if decide (m="append")&&isNil a&&decide (q.length<aw)then k ((AN Γ.N (AL a) A).set i (.gg (q++[[]])))else af
 |none=>(ownOf (AN Γ.N (AL a) A)[i]?).bind λl=>
  if m="append"then(A9 Γ n ae sc (vals (AN Γ.N (AL a) A)) a).bind λd=>if l.length<aw then k ((AN Γ.N (AL a) A).set i (.own (l++[d])))else af
  else if m="extend"then(F5 (A9 Γ n ae sc (vals (AN Γ.N (AL a) A)) a)).bind λj=>if l.length+j.length<=aw then k ((AN Γ.N (AL a) A).set i (.own (l++j)))else af
  else af)
 else af
def SA(x:Str)(a:Expr):ah Out:=if B5 sc x then(slot Γ.N x).bind λi=>(K8 (AN Γ.N (AL a) A)[i]?).bind λj=>(j.getLast?).bind λl=>(A9 Γ n ae sc (vals (AN Γ.N (AL a) A)) a).bind λd=>if l.length<aw then k ((AN Γ.N (AL a) A).set i (.gg (j.dropLast++[l++[d]])))else af else af
def SD(x:Str)(j q:Expr):ah Out:=if B5 sc x then(slot Γ.N x).bind λi=>(IY (AN Γ.N (AL j++AL q) A)[i]?).bind λes=>
 (G6 (A9 Γ n ae sc (vals (AN Γ.N (AL j++AL q) A)) j)).bind λkk=>(A9 Γ n ae sc (vals (AN Γ.N (AL j++AL q) A)) q).bind λd=>if es.length<aw then(K9 es kk d).bind λW=>k ((AN Γ.N (AL j++AL q) A).set i (.tk W))else af else af
def SE(e:Expr):ah Out:=if AA3 e then k A else match vM1 e with
 |some ⟨q,_⟩=>if notStar q.2.2.2.1&&(q.2.2.1.endLine==q.2.2.2.2.line)then(match FG q.1 with
  |some ⟨r,_⟩=>R9 Γ sc n A k r.1 q.2.1 q.2.2.2.1
  |none=>if q.2.1="append"then(match AA2 q.1 with
   |some ⟨r,_⟩=>SA Γ sc n A k r.1 q.2.2.2.1
   |none=>match vM2 q.1 with
    |some ⟨r,_⟩=>if decide (r.2.1="setdefault")&&isNil r.2.2.2.2.1&&notStar r.2.2.2.1&&(r.2.2.1.endLine==r.2.2.2.2.2.line)then(match FG r.1 with
     |some ⟨t,_⟩=>SD Γ sc n A k t.1 r.2.2.2.1 q.2.2.2.1
     |none=>af)else af
    |none=>af)else af)else af
 |none=>af
end
noncomputable def stI(Γ:Ctx)(sc:cz)(n:ai)(j:ab Sl->ab Stmt->(ab Sl->ah Out)->ah Out)(A:ab Sl)(k:ab Sl->ah Out)(c:Expr)(a b:ab Stmt):ah Out:=match XH sc Γ.N A c with
 |some p=>AI (A0 (A9 Γ n ae sc (vals (E2 A)) p.1) (LB (A9 Γ n ae sc (vals (E2 A)) p.2.1) p.2.2)) (j A a k) (j A b k)
 |none=>if FH c then AI (A9 Γ n ae sc (vals (E2 A)) c) (j A a k) (j A b k)else af
def SG(Γ:Ctx)(sc:cz)(n:ai)(j:ab Sl->ab Stmt->(ab Sl->ah Out)->ah Out)(A:ab Sl)(tg iter:Expr)(body:ab Stmt)(k:ab Sl->ah Out):ah Out:=match IZ sc Γ.N A iter with
 |some p=>if GJ Γ.fi tg then(CG (AU (λd ξ'=>(IX Γ.N sc tg d ξ').bind λξ2=>j ξ2 body λξ3=>aa (.next ξ3)) p.2 (A.set p.1 .no))).bind k else af
 |none=>LA Γ sc n j A tg iter body k
noncomputable def stK(Γ:Ctx)(sc:cz)(n:ai)(W:ab Sl->ab Stmt->(ab Sl->ah Out)->ah Out)(A:ab Sl)(st:Stmt)(k:ab Sl->ah Out):ah Out:=match st with
 |.Return (aa e) _=>(A9 Γ n ae sc (vals (E2 A)) e).map Out.ret
 |.Return af _=>aa (.ret .bj)
 |.Pass _=>k A
 |.Expr e _=>SE Γ sc n A k e
 |.If c a b _=>stI Γ sc n W A k c a b
 |.Assign [t] e _=>(match FG t with
  |some ⟨q,_⟩=>R8 Γ sc n A k q.1 e
  |none=>(AA0 t).bind λ⟨r,_⟩=>(FG r.1).bind λ⟨q,_⟩=>XQ Γ sc n A k q.1 r.2.1 e)
 |.AugAssign t .Add e _=>(AA0 t).bind λ⟨r,_⟩=>(vInt r.2.1).bind λ⟨j,_⟩=>(FG r.1).bind λ⟨q,_⟩=>if B5 sc q.1&&decide (0<=j.1)then(slot Γ.N q.1).bind λi=>(ownOf (AN Γ.N (AL e) A)[i]?).bind λl=>(bump l j.1 (A9 Γ n ae sc (vals (AN Γ.N (AL e) A)) e)).bind λl'=>k ((AN Γ.N (AL e) A).set i (.own l'))else af
 |.For tg iter body [] _=>SG Γ sc n W A tg iter body k
 |_=>af
def BP(Γ:Ctx)(sc:cz):ai->ab Sl->ab Stmt->(ab Sl->ah Out)->ah Out
 |0,_,_,_=>af
 |_+1,A,[],k=>k A
 |n+1,A,st::rest,k=>stK Γ sc n (BP Γ sc n) A st λξ'=>BP Γ sc n ξ' rest k
inductive b6{α β:Type}(R:α->β->Prop):ab α->ab β->Prop
 |nil:b6 R [] []
 |cons{a:α}{b:β}{as:ab α}{bs:ab β}:R a b->b6 R as bs->b6 R (a::as) (b::bs)
def b6.imp{R S}(f:∀a b,R a b->S a b)(h:b6 R as bs):b6 S as bs:=by
 induction h with
 |nil=>show .nil
 |cons h _ i=>show .cons (f _ _ h) i
def BW(K:ba)(cls:Str->Addr)(j H:Hp)(M:Addr->a4)(e:k8)(t:ab CI×TV):Prop:=e.1=t.1/\Dr K cls j (.ref e.2.1) (.tup (e.1.map D6))/\match t.2 with
 |.v d=>Dr K cls j e.2.2 d
 |.l xs=>∃c ys,e.2.2=.ref c/\M c=ae/\H c=aa (.lst ys)/\AJ K cls j ys xs
def CV:Tk->ab k8->ab V
 |(_,.l _)::ts,e::es=>e.2.2::CV ts es
 |_::ts,_::es=>CV ts es
 |_,_=>[]
def EG(q:ah (de×c9))(K:ba)(cls:Str->Addr)(j H:Hp)(M:Addr->a4):Sl->V->Prop
 |.own l,v=>∃a xs,v=.ref a/\M a=ae/\H a=aa (.lst xs)/\AJ K cls j xs l
 |.ij ks l,v=>∃a kvs,v=.ref a/\M a=ae/\H a=aa (.dK kvs)/\kvs.map (·.1)=ks/\AJ K cls j (kvs.map (·.2)) l
 |.gg W,v=>∃a bs,v=.ref a/\M a=ae/\H a=aa (.lst (bs.map V.ref))/\(a::bs).Nodup/\b6 (λb l=>M b=ae/\∃xs,H b=aa (.lst xs)/\AJ K cls j xs l) bs W
 |.tk ts,v=>∃P w a es,q=aa (P,w)/\v=.ref a/\M a=ae/\H a=aa (BY P w a es)/\b6 (BW K cls j H M) es ts/\(CV ts es).Nodup/\(es.map (·.1)).Nodup
 |_,_=>il
def BW.mono{K}(s1:∀b o,M b=ae->H b=aa o->H' b=aa o)(s2:∀{v d},Dr K cls q v d->Dr K cls j v d)(s3:∀{v d},AJ K cls q v d->AJ K cls j v d)(hm:∀b,M b=ae->M' b=ae)(h:BW K cls q H M e t):BW K cls j H' M' e t:=by show d9 h λh1 h2 W=>⟨h1,s2 h2,?_⟩;revert W;cases t.2<;>walk
def EG.ao0{K}(s1:∀b o,M b=ae->H b=aa o->H' b=aa o)(s2:∀{v d},Dr K cls Hr v d->Dr K cls Hr' v d)(s3:∀{v d},AJ K cls Hr v d->AJ K cls Hr' v d)(hm:∀b,M b=ae->M' b=ae)(h:EG pw K cls Hr H M s v):EG pw K cls Hr' H' M' s v:=by
 cases s with
 |own=>show fg h λa xs h1 h2 j q=>ic a xs h1 (hm _ h2) (s1 _ _ h2 j) (s3 q)
 |ij=>show lg h λa kvs h1 h2 j q h5=>jx a kvs h1 (hm _ h2) (s1 _ _ h2 j) q (s3 h5)
 |gg=>show lg h λa bs h1 h2 j q h5=>jx a bs h1 (hm _ h2) (s1 _ _ h2 j) q (h5.imp λb l z=>rj z λq1 xs q2 q3=>⟨hm _ q1,xs,s1 _ _ q1 q2,s3 q3⟩)
 |tk=>show nh h λP w a es h1 h2 j q W=>xA W λh5 h6=>⟨P,w,a,es,h1,h2,hm _ j,s1 _ _ j q,h5.imp λe t h=>h.mono s1 s2 s3 hm,h6⟩
 |_=>show h
def EG.mono{K}(W:∀b o,M b=ae->H b=aa o->H' b=aa o)(s2:AH Hr j)(hm:∀b,M b=ae->M' b=ae)(h:EG pw K cls Hr H M s v):EG pw K cls j H' M' s v:=
 h.ao0 W (λq=>q.up s2) (λq=>q.up s2) hm
def a30{K}(h:b6 (λb l=>∃xs,H b=aa (.lst xs)/\AJ K cls H xs l) bs j):AJ K cls H (bs.map V.ref) (j.map D.lst):=by
 induction h with
 |nil=>rfl
 |cons h _ i=>show au h λxs h1 h2=>.cons (.lst h1 h2) i
theorem EG.AN{K}(hm:∀b,M b=ae->O' b=ag)(s2:AH (rs O H) (rs O' H))(h:EG pw K cls (rs O H) H M s v)(e:s.fz=.val d):Dr K cls (rs O' H) v d:=by
 let k:∀{b o},M b=ae->H b=aa o->rs O' H b=aa o:=λq z=>by grind[rs]
 cases s with
 |own=>show fg h λa xs j h2 h3 h4=>?_;subst j;cases e;show .lst (k h2 h3) (h4.up s2)
 |ij=>show lg h λa kvs W h2 h3 h4 h5=>?_;subst W;cases e;show .d8 (k h2 h3) h4 (h5.up s2)
 |gg=>show lg h λa bs zq14_1 h2 h3 h4 h5=>?_;subst zq14_1;cases e;show .lst (k h2 h3) (a30 (h5.imp λb l z=>rj z λq1 xs q2 q3=>⟨xs,k q1 q2,q3.up s2⟩))
 |tk=>trivial
 |_=>show h.elim
structure l9(Γ:Ctx)(K:ba)(E:Addr->a4)(B:Hp)(O:Addr->a4)(H:Hp)(C:L2.St)(A:ab Sl)(M:ai->Addr->a4):Prop where
 at_:∀i s,A[i]?=aa s->s.EF=ae->∃v,C[i]?=aa (aa v)/\EG Γ.pw K Γ.cls (rs O H) H (M i) s v
 fj:∀i b,M i b=ae->O b=ae/\E b=ag/\B b=af
 ds:∀i j b,M i b=ae->M j b=ae->i=j
structure ER(Γ:Ctx)(K:ba)(E:Addr->a4)(B:Hp)(O:Addr->a4)(H:Hp)(C:L2.St)(A:ab Sl):Prop where
 has:BU O H
 sub:∀a,E a=ae->O a=ae
 ex:∀a,O a=ae->E a=ae\/B a=af
 base:AH B H
 val:∀(i:ai)d,A[i]?=aa (.val d)->∃v,C[i]?=aa (aa v)/\Dr K Γ.cls (rs O H) v d
 own:∃M,l9 Γ K E B O H C A M
 jy:∀m∈Γ.fi,∃i a dx fs,slot Γ.N m.x=aa i/\C[i]?=aa (aa (.ref a))/\E a=ae/\B a=af/\H a=aa (.ins (Γ.cls m.c) dx fs)/\fs.map (·.1)=m.ns/\AJ K Γ.cls (rs O H) (fs.map (·.2)) m.l
 pq:∀m∈Γ.fi,∀m'∈Γ.fi,∀i j a,slot Γ.N m.x=aa i->slot Γ.N m'.x=aa j->C[i]?=aa (aa (.ref a))->C[j]?=aa (aa (.ref a))->i=j
 rp:∀m∈Γ.fi,∀i,slot Γ.N m.x=aa i->C[i]?=aa (aa (.ref (Γ.ad m.x)))
section
variable{Γ:Ctx}{K:ba}{E O:Addr->a4}{B H H':Hp}{C:L2.St}{A:ab Sl}
def ER.up(e:ER Γ K E B O H C A)(s:AH H H'):ER Γ K E B O H' C A where
 has:=e.has.up s
 sub:=e.sub
 ex:=e.ex
 base:=e.base.trans s
 val:=λi d h=>au (e.val i d h) λv a b=>ap v a (b.up (AH.rs O s))
 own:=by let⟨M,w⟩:=e.own;show⟨M,λi s' h1 h2=>au (w.at_ i s' h1 h2) λv q1 q2=>ap v q1 (q2.mono (λb o ζ q=>s _ _ q) (AH.rs O s) λζ q=>q),w.fj,w.ds⟩
 jy:=λm hm=>lh (e.jy m hm) λi a dx fs h1 h2 h3 h4 h5 h6 h7=>ng i a dx fs h1 h2 h3 h4 (s _ _ h5) h6 (h7.up (AH.rs O s))
 pq:=e.pq
 rp:=e.rp
def ER.vr(e:ER Γ K E B O H C A):VM Γ K O H C (vals A):=by
 show⟨λi d h=>?_,λm hm=>lh (e.jy m hm) λi a dx fs h1 h2 h3 h4 j q W=>(vb i a dx fs h1 h2 j q W)⟩;delta vals at h;rw[i9]at h;let⟨s,hs,hv⟩:=bo h;cases s with
 |val d'=>cases hv;show e.val i d hs
 |_=>trivial
def ao1{s:Sl}(h:s.EF=ae):s.fz.EF=false:=by cases s<;>rfl
def ao2(s:Sl):s.fz=s\/s.EF=true:=by
 cases s with
 |no=>show .inl rfl
 |val d=>show .inl rfl
 |_=>show .inr rfl
def Fz(a b:ah Sl):Prop:=b=a\/∃s,a=aa s/\s.EF=ae/\b=aa s.fz
section
variable(e:ER Γ K E B O H C A)
include e
def ER.ao3(w:l9 Γ K E B O H C A M)(hf:∀i:ai,Fz A[i]? ξ'[i]?):
 ∃W,(∀a,W a=ae->O a=ae)/\ER Γ K E B W H C ξ'/\AH (rs O H) (rs W H)/\∀(i)(s)b,A[i]?=aa s->s.EF=ae->ξ'[i]?=aa s.fz->M i b=ae->W b=false:=by
 classical
 let hO':∃W:Addr->a4,∀a,W a=ae↔O a=ae/\∀i s,A[i]?=aa s->s.EF=ae->ξ'[i]?=aa s.fz->M i a=false:=
  ⟨λa=>decide (O a=ae/\∀i s,A[i]?=aa s->s.EF=ae->ξ'[i]?=aa s.fz->M i a=ag),λa=>yS⟩;let⟨W,hO'⟩:=hO';let le:=λa h=>((hO' a).mp h).1;let sm:AH (rs O H) (rs W H):=λb o h=>by
  delta rs at h⊢;by_cases hb:O b=ae;.rw[aj hb]at h;show nn h
  .rw[ao hb]at h;erw[ao (λz=>hb (le b z)),h]
 show wq W le ⟨λa h=>e.has a (le a h),λa h=>(hO' a).mpr ⟨e.sub a h,λi s ζ ζ ζ=>?_⟩,λa h=>e.ex a (le a h),e.base,λi d h=>?_,⟨λi b=>M i b&&decide (∃s,ξ'[i]?=aa s/\s.EF=ae),⟨λi s h1 h2=>?_,λi b h=>?_,λi j b h1 h2=>?_⟩⟩,λm hm=>?_,e.pq,e.rp⟩ sm λi s b h1 h2 h3 h4=>?_;.cases z:M i a with
  |false=>rfl
  |true=>let:=(w.fj i a z).2.1;rw[h]at this;trivial
 .obtain z|⟨s,z1,z2,z3⟩:=hf i;.rw[z]at h;let⟨v,h1,h2⟩:=e.val i d h;show ap v h1 (h2.up sm)
  .rw[z3]at h;show au (w.at_ i s z1 z2) λv q1 q2=>ap v q1 (q2.AN (λb hb=>?_) sm (fo h));cases z:W b<;>walk
 .let hs:A[i]?=aa s:=by
   obtain z|⟨s',z1,z2,z3⟩:=hf i;.erw[<-z,h1]
   .rw[z3]at h1;cases h1;rw[ao1 z2]at h2;show nb h2
  let⟨v,q1,q2⟩:=w.at_ i s hs h2;show ap v q1 (q2.mono (λζ ζ ζ q=>q) sm λb hb=>by erw[cg,⟨hb,gm (ap s h1 h2)⟩])
 .rw[cg]at h;show d9 (w.fj i b h.1) λg1 g2 g3=>?_;let⟨s,h2,h3⟩:=ff h.2;show⟨(hO' b).mpr ⟨g1,λj s' k1 k2 k3=>?_⟩,g2,g3⟩;cases z:M j b with
  |false=>rfl
  |true=>let:=w.ds i j b h.1 z;subst this;rw[k3]at h2;cases h2;rw[ao1 k2]at h3;show nb h3
 .rw[cg]at h1 h2;show w.ds i j b h1.1 h2.1
 .show QY λzz=>lh (e.jy m hm) λi a dx fs h1 h2 h3 h4 h5 h6 h7=>?_;apply zz.f;show ng i a dx fs h1 h2 h3 h4 h5 h6 (h7.up sm)
 .cases z:W b<;>walk
def ER.je(hf:∀i:ai,Fz A[i]? ξ'[i]?):∃j,(∀a,j a=ae->O a=ae)/\ER Γ K E B j H C ξ':=by let⟨M,w⟩:=e.own;show bz (e.ao3 w hf) λj h1 h2 _=>ap j h1 h2
def ER.ao4(hH:H a=aa o)(hx:WR o=ae)(hx':WR o'=ae)(hO:O a=ag)(hB:∀b,b≠a->B' b=B b)(hBa:B' a=af\/B' a=aa o'):ER Γ K E B' O (upd H a o') C A:=by
 let sx:IM (rs O H) (rs O (upd H a o')):=λb q h1 h2=>by
  delta rs at h1⊢;by_cases z:O b=ae;.rw[aj z]at h1;trivial
  .rw[ao z]at h1⊢;grind[a9]
 let nb:∀b,O b=ae->b≠a:=λb h z=>by subst z;rw[h]at hO;trivial
 show⟨λb h=>?_,e.sub,λb h=>?_,λb q h=>?_,λi d h=>?_,?_,λm hm=>?_,e.pq,e.rp⟩;.erw[a9 (nb b h),e.has b h]
 .erw[hB b (nb b h),e.ex b h]
 .by_cases z:b=a
  .subst z;obtain y|y:=hBa;.rw[y]at h;trivial
   .rw[y]at h;obtain rfl:=fo h;show cy
  .rw[hB b z]at h;erw[a9 z,e.base _ _ h]
 .let⟨v,h1,h2⟩:=e.val i d h;show ap v h1 (Dr.li sx _ _ h2)
 .let⟨M,w⟩:=e.own;show⟨M,λi s h1 h2=>?_,λi b h=>d9 (w.fj i b h) λg1 g2 g3=>⟨g1,g2,by erw[hB b (nb b g1),g3]⟩,w.ds⟩;.let⟨v,g1,g2⟩:=w.at_ i s h1 h2;show ap v g1 (g2.ao0 (λb q hb h=>by erw[a9 (nb b (w.fj i b hb).1),h]) (Dr.li sx _ _) (AJ.li sx _ _) λζ q=>q)
 .let⟨i,c,dx,fs,h1,h2,h3,h4,h5,h6,h7⟩:=e.jy m hm;let nc:=nb c (e.sub c h3);show ng i c dx fs h1 h2 h3 (by erw[hB c nc,h4]) (by erw[a9 nc,h5]) h6 (AJ.li sx _ _ h7)
end
def km:∀(N us)(A)(i:ai),Fz A[i]? (AN N us A)[i]?
 |[],us,A,i=>.inl rfl
 |n::N,us,[],i=>.inl rfl
 |n::N,us,s::A,0=>by
  delta AN;split
  .obtain h|h:=ao2 s;.erw[h,.inl rfl]
   .show .inr (et s rfl h rfl)
  .show .inl rfl
 |n::N,us,s::A,i+1=>km N us A i
def ab6(A)(i:ai):Fz A[i]? (E2 A)[i]?:=by
 delta E2;rw[i9];cases h:A[i]? with
 |none=>show .inl rfl
 |some s=>show(ao2 s).elim (λz=>.inl yA) λz=>.inr (et s rfl z rfl)
def Nm(Γ:Ctx)(i:ai):Prop:=∀m∈Γ.fi,slot Γ.N m.x≠aa i
def aa2{A:ab q}(h:(A.set i s)[j]?=aa t):(j=i/\t=s)\/(j≠i/\A[j]?=aa t):=by rw[List.getElem?_set]at h;grind
section
variable(e:ER Γ K E B O H C A)
include e
def ER.put(hi:i<C.length)(hm:Nm Γ i)(r:Dr K Γ.cls (rs O H) v d):ER Γ K E B O H (C.set i (aa v)) (A.set i (.val d))where
 has:=e.has
 sub:=e.sub
 ex:=e.ex
 base:=e.base
 val:=λj d' h=>by
  obtain⟨rfl,z⟩|⟨hj,z⟩:=aa2 h;.walk
  .erw[ir (λq=>hj q.symm),e.val j d' z]
 own:=by
  have⟨M,w⟩:=e.own;show⟨M,λj s h1 h2=>?_,w.fj,w.ds⟩;obtain⟨rfl,z⟩|⟨hj,z⟩:=aa2 h1;.subst z;trivial
  .erw[ir (λq=>hj q.symm),w.at_ j s z h2]
 jy:=λm hm'=>by show QY λzz=>iy (e.jy m hm') λj a W=>b7 W λdx fs h1 h2 h3=>?_;apply zz.f;show⟨j,a,dx,fs,h1,?_,h3⟩;rw[ir (λz=>hm m hm' yA)];omega
 pq:=λm h1 m' h2 j k a q1 q2 q3 q4=>by rw[ir (λz=>hm m h1 yA)]at q3;rw[ir (λz=>hm m' h2 yA)]at q4;show e.pq m h1 m' h2 j k a q1 q2 q3 q4
 rp:=λm h1 j q1=>by erw[ir (λz=>hm m h1 yA),e.rp m h1 j q1]
def ER.agt(w:l9 Γ K E B O H C A M)
 (T:ai->Prop)
 (hO1:∀b,O b=ae->O' b=ae)(hO2:∀b,O' b=ae->O b=ae\/H b=af)(hO3:∀b,O' b=ae->H' b≠af)
 (hH:∀b o,H b=aa o->(∀i,T i->M i b=ag)->H' b=aa o)
 (hM1:∀i,¬T i->∀b,M' i b=ae->M i b=ae)(hM1':∀i,¬T i->∀b,M i b=ae->M' i b=ae)(hM2:∀i b,T i->M' i b=ae->O' b=ae/\(H b=af\/∃j,T j/\M j b=ae))(hM3:∀i j b,T i->T j->M' i b=ae->M' j b=ae->i=j)
 (hσ:∀j,¬T j->σ'[j]?=C[j]?)(hξ:∀j,¬T j->ξ'[j]?=A[j]?)(hnm:∀j,T j->Nm Γ j\/σ'[j]?=C[j]?)
 (hT:∀j s,T j->ξ'[j]?=aa s->(s=.no\/(∃d v,s=.val d/\σ'[j]?=aa (aa v)/\Dr K Γ.cls (rs O' H') v d)\/(s.EF=ae/\∃v,σ'[j]?=aa (aa v)/\EG Γ.pw K Γ.cls (rs O' H') H' (M' j) s v))):
 ER Γ K E B O' H' σ' ξ'/\l9 Γ K E B O' H' σ' ξ' M':=by
 let nO:=λi b h=>(w.fj i b h).1;let sm:AH (rs O H) (rs O' H'):=λb o q=>by
  let q2:=cq _ _ _ _ q;let nb:O b=false:=by
   cases z:O b with
   |false=>rfl
   |true=>delta rs at q;rw[aj z]at q;show nn q
  delta rs;rw[ao,hH b o q2 (λi ζ=>by cases z:M i b<;>grind)];intro z;obtain z|z:=hO2 b z;.rw[nb]at z;cases z
  .rw[q2]at z;cases z
 let bH:∀b,H b=af->B b=none:=λb h=>by
  cases z:B b with
  |none=>rfl
  |some o=>rw[e.base _ _ z]at h;cases h
 let o0:∀b,H b=af->E b=false:=λb h=>by
  cases z:E b with
  |false=>rfl
  |true=>show cj h (e.has b (e.sub b z))
 let inT:∀i b,T i->M' i b=ae->O' b=ae/\E b=ag/\B b=none:=λi b hi h=>by
  let⟨h1,h2⟩:=hM2 i b hi h;obtain h2|⟨j,_,h2⟩:=h2;.show⟨h1,o0 b h2,bH b h2⟩
  .show d9 (w.fj j b h2) λ_ g2 g3=>⟨h1,g2,g3⟩
 classical
 let own:l9 Γ K E B O' H' σ' ξ' M':=by
  show⟨λj s h1 h2=>?_,λi b h=>?_,λi j b h1 h2=>?_⟩
  .by_cases hj:T j
   .obtain z|⟨d',v,z1,z2,z3⟩|⟨_,v,z1,z2⟩:=hT j _ hj h1;.subst z;show nb h2
    .subst z1;show nb h2
    .show ap v z1 z2
   .rw[hξ j hj]at h1;erw[hσ j hj,au (w.at_ j s h1 h2) λv g1 g2=>ap v g1 (g2.mono (λb o hb q=>hH b o q λi hi=>?_) sm (λb hb=>hM1' j hj b hb))];cases z:M i b with
    |false=>rfl
    |true=>let:=w.ds i j b z hb;subst this;show cj hi hj
  .by_cases hi:T i;.show inT i b hi h
   .let⟨g1,g2,g3⟩:=w.fj i b (hM1 i hi b h);show⟨hO1 b g1,g2,g3⟩
  .by_cases hi:T i
   .by_cases hj:T j;.show hM3 i j b hi hj h1 h2
    .exfalso;let q:=hM1 j hj b h2;obtain z|⟨k,hk,z⟩:=(hM2 i b hi h1).2;.show e.has b (nO j b q) z
     .let:=w.ds k j b z q;subst this;show hj hk
   .let q:=hM1 i hi b h1;by_cases hj:T j
    .exfalso;obtain z|⟨k,hk,z⟩:=(hM2 j b hj h2).2;.show e.has b (nO i b q) z
     .let:=w.ds k i b z q;subst this;show hi hk
    .show w.ds i j b q (hM1 j hj b h2)
 show⟨⟨λa h=>hO3 a h,λa h=>hO1 a (e.sub a h),λa h=>(hO2 a h).elim (λh=>e.ex a h) λh=>.inr (bH a h),λb o q=>?_,λj d h=>?_,⟨M',own⟩,λm hm=>?_,λm h1 m' h2 j k a q1 q2 q3 q4=>?_,λm h1 j q1=>?_⟩,own⟩;.show hH b o (e.base _ _ q) λi ζ=>?_;cases z:M i b with
  |false=>rfl
  |true=>rw[(w.fj i b z).2.2]at q;show nn q
 .by_cases hj:T j
  .obtain z|⟨d',v,z1,z2,z3⟩|⟨z,_⟩:=hT j _ hj h;.cases z
   .cases z1;show ap v z2 z3
   .show nb z
  .rw[hξ j hj]at h;erw[hσ j hj,au (e.val j d h) λv g1 g2=>ap v g1 (g2.up sm)]
 .show QY λzz=>lh (e.jy m hm) λj a dx fs h1 h2 h3 h4 h5 h6 h7=>?_;let na:∀i,M i a=false:=λi=>by
   cases z:M i a with
   |false=>rfl
   |true=>let:=(w.fj i a z).2.1;rw[h3]at this;cases this
  apply zz.f;show ng j a dx fs h1 ?_ h3 h4 (hH a _ h5 λi ζ=>na i) h6 (h7.up sm);by_cases hj:T j
  .obtain z|z:=hnm j hj;.show cj h1 (z m hm)
   .erw[z,h2]
  .erw[hσ j hj,h2]
 .let same:=λm hm j h1=>by
   by_cases hj:T j;.show(hnm j hj).elim (λz=>cj h1 (z m hm)) λz=>z
   .show hσ j hj
  rw[same m h1 j q1]at q3;rw[same m' h2 k q2]at q4;show e.pq m h1 m' h2 j k a q1 q2 q3 q4
 .erw[show σ'[j]?=C[j]? by
   by_cases hj:T j;.show(hnm j hj).elim (λz=>cj q1 (z m h1)) λz=>z
   .show hσ j hj,e.rp m h1 j q1]
def ER.ao5(hi:i<C.length)(hm:Nm Γ i)(sH:AH H H')(hN:∀b,N b=ae->H b=af/\H' b≠af)(hs:s.EF=ae)
 (r:EG Γ.pw K Γ.cls (rs (λb=>O b||N b) H') H' N s v):ER Γ K E B (λb=>O b||N b) H' (C.set i (aa v)) (A.set i s):=by
 have⟨M,w⟩:=e.own;show(e.agt w (T:=λj=>j=i) (M':=λj b=>if j=i then N b else M j b) (λb h=>by grind) (λb h=>?_) (λb h=>?_) (λb o q ζ=>sH _ _ q) (λj W b h=>?_) (λj W b h=>?_) (λj b W h=>?_) (λj k b h1 h2 ζ ζ=>h1.trans h2.symm) (λj W=>ir (λz=>W z.symm)) (λj W=>ir (λz=>W z.symm)) (λj W=>.inl (by grind)) (λj t W h=>?_)).1;.grind
 .rw[jb]at h;show h.elim (e.has.up sH b) λh=>(hN b h).2
 .lia
 .lia
 .walk
 .obtain⟨_,z⟩|⟨z,_⟩:=aa2 h;all_goals walk
def ER.ao6(w:l9 Γ K E B O H C A M)(hv:C[i]?=aa (aa v))(hH:∀b o,H b=aa o->M i b=ag->H' b=aa o)(hN:∀b,N b=ae->(H b=af\/M i b=ae)/\H' b≠af)
 (hO:∀b,O b=ae->H' b≠af)(hs:s'.EF=ae)(r:EG Γ.pw K Γ.cls (rs (λb=>O b||N b) H') H' N s' v):ER Γ K E B (λb=>O b||N b) H' C (A.set i s')/\l9 Γ K E B (λb=>O b||N b) H' C (A.set i s') (λj b=>if j=i then N b else M j b):=by
 show e.agt w (T:=λj=>j=i) (λb h=>by rw[h];rfl) (λb h=>?_) (λb h=>?_) (λb o q h=>hH b o q (h i rfl)) (λj W b h=>?_) (λj W b h=>?_) (λj b W h=>?_) (λj k b h1 h2 ζ ζ=>h1.trans h2.symm) (λj W=>rfl) (λj W=>ir (λz=>W z.symm)) (λj W=>.inr rfl) (λj t W h=>?_)
 .rw[jb]at h;obtain h|h:=h;.show .inl h
  .obtain z|z:=(hN b h).1;.walk
   .show .inl (w.fj i b z).1
 .rw[jb]at h;show h.elim (λh=>hO b h) λh=>(hN b h).2
 .lia
 .lia
 .walk
 .subst W;obtain⟨_,z⟩|⟨z,_⟩:=aa2 h;all_goals walk
def ER.turn(w:l9 Γ K E B O H C A M)(j:C[i]?=aa (aa v))(q:∀b o,H b=aa o->M i b=ag->H' b=aa o)(W:∀b,N b=ae->(H b=af\/M i b=ae)/\H' b≠af)
 (hO:∀b,O b=ae->H' b≠af)(hs:s'.EF=ae)(r:EG Γ.pw K Γ.cls (rs (λb=>O b||N b) H') H' N s' v):ER Γ K E B (λb=>O b||N b) H' C (A.set i s'):=
 (e.ao6 w j q W hO hs r).1
end
end
end DL
namespace DL
open PySem PySem.Spec PyProof.Rows L2
noncomputable def wS(X:Cx)(j:ab Stmt):TS:=λD q H=>∀pins s,Inv X pins q H s->ax (az X.prog X.w) X.A (execs j X.env) (SP X pins D) X.xe s
def CW(X:Cx)(st:Stmt):TS:=λD j H=>∀pins s,Inv X pins j H s->ax (az X.prog X.w) X.A (exec st X.env) (SP X pins D) X.xe s
def ma(X)(j):B9 X j (wS X j):=λpins s q H D I h=>h pins s I
def agu(X)(st):PS X st (CW X st):=λpins s j H D I h=>h pins s I
section
variable{Γ:Ctx}{X:Cx}
def PS.w{st}{D}(h:PS X st t)(q:t D j H):CW X st D j H:=λpins s I=>h pins s j H D I q
def B9.w{st}{D}(h:B9 X st t)(q:t D j H):wS X st D j H:=λpins s I=>h pins s j H D I q
def SH(Γ:Ctx)(X:Cx)(W:Addr->a4)(B:Hp)(D:Ends)(j:Out):Prop:=match j with
 |.next ξ=>∀O q H,ER Γ X.K W B O H q ξ->q.length=Γ.N.length->D.nx q H
 |.ret d=>∀v H,AH B H->Dr X.K Γ.cls (rs W H) v d->D.rt v H
def SI(Γ:Ctx)(X:Cx)(ξ:ab Sl)(ss:ab Stmt)(r:ah Out):Prop:=
 ∀j,r=aa j->∀W B O q H D,ER Γ X.K W B O H q ξ->q.length=Γ.N.length->SH Γ X W B D j->wS X ss D q H
def ADU(Γ:Ctx)(X:Cx)(ξ:ab Sl)(st:Stmt)(r:ah Out):Prop:=
 ∀j,r=aa j->∀W B O q H D,ER Γ X.K W B O H q ξ->q.length=Γ.N.length->SH Γ X W B D j->CW X st D q H
def pz(G:GX Γ X ae sc)(j:∀x,X.fn x=ae)(h:C1 sc x=ae):Loc X.env.scope x/\(X.fn x=ae\/X.env.scope.names.lookup x=aa .local):=by show⟨?_,.inl (j x)⟩;erw[G.K4 rfl,aon h]
def ab7(h:∀a,O a=ae->j a=ae):AH (rs j H) (rs O H):=λb o e=>by grind[rs]
def rq(h:IW e=ag):uo e t l env=pure false:=by cases e<;>first|trivial
def r6(h:EQ Γ.fi x=ae)(hi:slot Γ.N x=aa i):Nm Γ i:=λm hm z=>by let h1:=slot_get hi;rw[slot_get z]at h1;show ff (mr.mp h m hm) (fo h1)
def ao7(G:GX Γ X ae sc)(j:∀x,X.fn x=ae){tg}{d}{ξ ξ'}{v}{O0 O}{B H}{σ}{Q}
 (h:IX Γ.N sc tg d ξ=aa ξ')(W:GJ Γ.fi tg=ae)(r:Dr X.K Γ.cls (rs O H) v d)(e:ER Γ X.K O0 B O H σ ξ)(hl:σ.length=Γ.N.length)
 (q:∀σ',σ'.length=Γ.N.length->ER Γ X.K O0 B O H σ' ξ'->Q σ' H):∃g,PG X tg g/\g v σ H Q:=by
 obtain⟨hx,hi⟩|⟨hx,hy,hi,hj⟩:=aoa h;.let⟨l1,l2⟩:=pz G j hx;show ap _ (wu (by erw[G.N,G.nd]) (by erw[G.N,slot_get hi]) l1 l2) (q _ yA (e.put (by erw[hl,lj hi]) (r6 W hi) r))
 .let⟨l1,l2⟩:=pz G j hx;let⟨m1,m2⟩:=pz G j hy;show ap _ (afl G.calm (aaw (wu (by erw[G.N,G.nd]) (by erw[G.N,slot_get hi]) l1 l2) (aaw (wu (by erw[G.N,G.nd]) (by erw[G.N,slot_get hj]) m1 m2) afk))) (QY λz=>b7 r λ_ _ zq3_1 g1 g2=>?_);subst zq3_1;let⟨_,_,rfl,r1,g2⟩:=g2;let⟨_,_,rfl,r2,g2⟩:=g2;cases g2;apply z.f;show⟨_,_,rfl,AS.same (cq _ _) g1,rfl,_,_,rfl,_,_,rfl,rfl,(q _ yA ((e.put (by erw[hl,lj hi]) (r6 ((cg _ _).mp W).1 hi) r1).put (by erw[qj,hl,lj hj]) (r6 ((cg _ _).mp W).2 hj) r2))⟩
def XR(X:Cx)(tg:Expr):TG:=λv j H Q=>∃g,PG X tg g/\g v j H Q
def agv(X)(tg):PG X tg (XR X tg):=λpins s j H v u Q I r h=>au h λg q hg=>q pins s j H v u Q I r hg
noncomputable def both(B C:Hp):Hp:=λa=>match B a with
 |some o=>aa o
 |none=>C a
def a31(h1:AH B H)(h2:AH C H):AH (both B C) H:=λb o e=>by
 delta both at e;cases z:B b with
 |some o'=>rw[z]at e;injection e with e;subst e;show h1 _ _ z
 |none=>rw[z]at e;show h2 _ _ e
def ao8:AH B (both B C):=λb o e=>by delta both;rw[e]
def ao9(h1:AH B H)(h2:AH C H):AH C (both B C):=λb o e=>by
 delta both;cases z:B b with
 |none=>omega
 |some o'=>let:=h1 _ _ z;rw[h2 _ _ e]at this;lia
def agw(h1:B a=af)(h2:C a=af):both B C a=none:=by simp_all[both]
def a32{ds:ab D}(hd:ds[i]?=aa d)(h:AU f (ds.drop i) ξ=aa j):
 (∃ξ',f d ξ=aa (.next ξ')/\AU f (ds.drop (i+1)) ξ'=aa j)\/∃r,f d ξ=aa (.ret r)/\j=.ret r:=by grind[yi,AU]
def agx(G:GX Γ X ae sc)(hfn:∀x,X.fn x=ae){tg}{body}{ξ}{f}{j}{wi}(hnm:GJ Γ.fi tg=ae)
 (hf:∀d ξ1 o,f d ξ1=aa o->∃ξ2,IX Γ.N sc tg d ξ1=aa ξ2/\∃r,r=aa o/\SI Γ X ξ2 body r){out}(ho:AU f j ξ=aa out){O0}{B}{O}{σ}{H}{D}(e:ER Γ X.K O0 B O H σ ξ)(hl:σ.length=Γ.N.length)(hw:SH Γ X O0 B D out)
 (hwi:∀R:It->Hp->Prop,(∀J H1,AH H H1->uc X.K Γ.cls J (rs O H1) j->R J H1)->wi σ H R):RG wi (XR X tg) (wS X body) D σ H:=by
 show hwi _ λJ H1 s1 Y=>?_;let W:=e.up s1;show ap (λi m σ2 H2=>m=j.length-i/\i<=j.length/\σ2.length=Γ.N.length/\∃ξ2 O2,ER Γ X.K O0 (both B (rs O H1)) O2 H2 σ2 ξ2/\AU f (j.drop i) ξ2=aa out) ⟨j.length,rfl,gv _,hl,ξ,O,?_,by simpa using ho⟩ ?_
 .show⟨W.has,W.sub,λa q=>?_,a31 W.base (cq _ _),W.val,?_,λm hm=>?_,W.pq,W.rp⟩
  .obtain z|z:=W.ex a q;.show .inl z
   .show .inr (agw z ?_);delta rs;rw[aj q]
  .let⟨M,w⟩:=W.own;show⟨M,w.at_,λi b h=>d9 (w.fj i b h) λg1 g2 g3=>⟨g1,g2,agw g3 ?_⟩,w.ds⟩;delta rs;rw[aj g1]
  .show nh (W.jy m hm) λi a dx fs h1 h2 h3 h4 h5=>vb i a dx fs h1 h2 h3 (agw h4 ?_) h5;delta rs;rw[aj (W.sub a h3)]
 intro i m σ2 H2 y0;let⟨rfl,hile,hl2,ξ2,O2,e2,hr⟩:=y0;let hbs:=(ao9 W.base (cq _ _)).trans e2.base;let bn:∀{a:Addr},both B (rs O H1) a=af->B a=none:=fun{a}z=>by delta both at z;cases w:B a<;>walk
 let back:∀{O3 H3 σ3 ξ3},ER Γ X.K O0 _ O3 H3 σ3 ξ3->ER Γ X.K O0 B O3 H3 σ3 ξ3:=fun{O3 H3 σ3 ξ3}e3=>
  ⟨e3.has,e3.sub,λa q=>(e3.ex a q).imp id bn,ao8.trans e3.base,e3.val,xE e3.own λM w=>⟨M,w.at_,λi b h=>d9 (w.fj i b h) λg1 g2 g3=>⟨g1,g2,bn g3⟩,w.ds⟩,λm hm=>
   nh (e3.jy m hm) λi a dx fs h1 h2 h3 h4 h5=>(vb i a dx fs h1 h2 h3 (bn h4) h5),e3.pq,e3.rp⟩;by_cases hlt:i<j.length
 .obtain⟨d,hd⟩:∃d,j[i]?=aa d:=⟨_,gz hlt⟩;show .inr ⟨Y.go i H2 hbs hlt,λσ3 H3=>i+1<=j.length/\σ3.length=Γ.N.length/\∃ξ3 O3,ER Γ X.K O0 _ O3 H3 σ3 ξ3/\AU f _ ξ3=aa out,λσ' H' q=>(ki _ (by omega) rfl q.1 q.2.1 q.2.2),λx H3 yl=>QY λz0=>?_⟩;let⟨s3,hx⟩:=Y.k7 i H2 x H3 d hbs yl hd;let hx:=hx O2 e2.has λb o q=>by
   cases w:O2 b with
   |false=>rfl
   |true=>
    obtain z|z:=e2.ex b w;.let:=W.sub b z;delta rs at q;rw[aj this]at q;trivial
    .let:=ao9 W.base (cq O H1) _ _ q;rw[z]at this;trivial
  let e3:=e2.up s3;obtain⟨ξ',h1,h2⟩|⟨r,h1,h2⟩:=a32 hd hr;.let⟨ξ2',ht,rr,hrr,hs⟩:=hf d ξ2 _ h1;apply z0.f;show ao7 G hfn ht hnm hx e3 hl2 λσ' hl' e'=>(hs _ hrr O0 _ O2 σ' H3 _ e' hl' λO4 σ4 H4 e4 hl4=>⟨hlt,hl4,ξ',O4,e4,h2⟩)
  .subst h2;show au (hf d ξ2 _ h1) λξ2' ht zq10_1=>au zq10_1 λrr hrr hs=>?_;apply z0.f;show ao7 G hfn ht hnm hx e3 hl2 λσ' hl' e'=>(hs _ hrr O0 _ O2 σ' H3 _ e' hl' λv H4 s4 dv=>(hw v H4 (ao8.trans s4) dv))
 .let ei:i=j.length:=yL;subst ei;rw[ZU]at hr;injection hr with hr;subst hr;show .inl ⟨Y.stop H2 hbs,hw O2 σ2 H2 (back e2) hl2⟩
def apa(G:GX Γ X ae sc)(hfn:∀x,X.fn x=ae)(hp:MK (az X.prog X.w) X.A X.env X.xe)
 (hset:IA iter=ae)(hnm:GJ Γ.fi tg=ae)(hi:R4 Γ X η tg iter ri)(ei:ri=aa j)(hη:∀(O)(σ)(H)O0 B,ER Γ X.K O0 B O H σ ξ->VM Γ X.K O H σ η)
 (hf:∀d W o,f d W=aa o->∃ξ2,IX Γ.N sc tg d W=aa ξ2/\∃r,r=aa o/\SI Γ X ξ2 body r):ADU Γ X ξ (.For tg iter body [] pos) (AU f j ξ):=by show λout ho O0 B O σ H D e hl hw=>PS.w (afo hp G.calm (agi X tg iter) (agv X tg) (ma X body) (λx=>by cases iter<;>first|trivial)) (agx G hfn hnm hf ho e hl hw λR q=>hi j ei O σ H R e.has (hη _ _ _ _ _ e) λJ H1 s1 ζ Y=>q J H1 s1 Y)
end
section
open PySem.MeetsSeq PySem.MeetsSeq2 PySem.MeetsSeq3 PySem.AutoSeq1
def a33(l b)(its jts)(n m)(dd)(sl)(hs0:¬(!its.isEmpty&&ZJ (its.size+jts.size))=ae)(hs1:its.size<=aw)(hs2:its.size+jts.size<=aw+1):
 Meets (Builtin.«list.extend» ⟨[.ref l,.ref b],[]⟩) λζ R s=>s.heap.get? l=aa {cls:=.type "list",dict:=af,data:=.seq its n,slots:=#[]}/\s.heap.get? b=aa (N5 dd jts m sl)/\R (.ok (.ret QC)) {s with heap:=s.heap.update l (ZG λx=>x++jts),toks:=s.toks}:=by show .of_wp λprog w A R s h=>d9 h λhl hb h=>?_;delta N5 at hb;let f1:=idx_int;let f3:=AutoSeq1.sub_list_list;wp_walk using(wpAny_updateSeq hl rfl (hz:=hs1)),wpAny_loadPart' hl,wpAny_loadPart' hb;show ap _ rfl h
end
section
variable{X:Cx}
inductive apb(K:ba)(x:V)(vs:ab V)(H:Hp)(Q:VK):Prop|mk(l)(b)(xs)(zs)(h0:x=.ref l)(h1:vs=[.ref b])(h2:H l=aa (.lst xs))(h3:AS K H b zs)(h4:xs.length+zs.length<=aw)(h5:Q .bj (upd H l (.lst (xs++zs)))):apb K x vs H Q
def a34:RJ X "list.extend" (apb X.K):=by
 show λpins s σ H x vs v us Q I rx rv h=>QY λw=>?_;let⟨l,b,xs,zs,rfl,rfl,hH,hB,hz,q⟩:=h;cases rx;let⟨u,rfl,ru⟩:=rv.one;cases ru;show j6 (I.wy hH) λz W n r hl e=>bz (I.tuple hB) λj r2 zq4_1 z2=>j7 zq4_1 λzq4_2 e2 hc m hd=>?_;let⟨c2,dd,dt,sl⟩:=zq4_2;cases hc;cases hd;let hl2:=r2.length;let hsz:W.toArray.size+j.toArray.size<=sizeLine:=yA;let hlong:¬(!W.toArray.isEmpty&&ZJ (W.toArray.size+j.toArray.size))=true:=by rw[al6 hsz];simp
 apply w.f;show UZ U0 (ap _ e rfl) bg2 (bg3 _ _)
  (a33 l b W.toArray j.toArray n m dd sl hlong yL yL) ⟨e,e2,⟨.bj,_,I.adg hH e yS (r.append r2) ?_,rfl,q⟩⟩;walk
inductive apc(x y:V)(H:Hp)(Q:VK):Prop|mk(p)(xs)(i)(v)(h0:x=.ref p)(h1:y=.int i)(h2:0<=i)(h3:H p=aa (.lst xs))(h4:xs[i.toNat]?=aa v)(h5:Q v H):apc x y H Q
def a35:AAD X apc:=by show λpins s σ H o i ov iv Q I ro ri h=>QY λzz=>?_;let⟨p,xs,k,v,rfl,rfl,h0,hp,W,q⟩:=h;cases ro;let⟨t,rfl⟩:=ri;show j6 (I.wy hp) λz its n r hl e=>?_;let⟨w,hw,j⟩:=r.get W;let hlt:=(x9.mp W).1;let hn:=wx;apply zz.f;show getItem_listL (lx _ e rfl n rfl) h0 yL hw ⟨v,H,I,j,q⟩
def a36:B4 X (.type "dict") (λxs H Q=>∃a kvs,xs=[.ref a]/\H a=aa (.dK kvs)/\∀p,H p=af->Q (.ref p) (upd H p (.dK kvs))):=by show λpins s σ H xs us Q I r j=>b7 j λa kvs W h q=>?_;subst W;let⟨u,rfl,ru⟩:=r.one;cases ru;show a0x I (.inl h) λp s' hp I'=>⟨.ref p,_,I',rfl,q p hp⟩
end
def any_keys{kvs:ab (Key×V)}:(kvs.any λj=>decide (j.1=k))=(kvs.map (·.1)).any (λx=>decide (x=k)):=by rw[U2];rfl
def apd(kvs)(k)(v):(putK kvs k v).map (·.1)=D1 (kvs.map (·.1)) k:=by
 unfold putK D1;rw[U2];change _=if(kvs.any λa=>decide _)=ae then _ else _;split;.erw[el,jw λa j=>by grind]
 simp
def ape{K}(j:Dr K cls H v d)(kvs)(l)(h:AJ K cls H (kvs.map (·.2)) l):AJ K cls H ((putK kvs k v).map (·.2)) (E4 (kvs.map (·.1)) l k d):=by
 unfold putK E4;rw[any_keys];split;.ext z;clear z;induction kvs generalizing l with
  |nil=>cases h.e;rfl
  |cons p kvs q=>
   cases h.e with
   |cons h1 h2=>show .cons ?_ (q _ h2);lia
 .erw[fe,h.snoc j]
def apf{R}{bs}(h:b6 R as (bs++[b])):∃q a,as=q++[a]/\b6 R q bs/\R a b:=by
 induction bs generalizing as with
 |nil=>cases h with|cons h t=>cases t;show dq [] _ rfl (.nil) h
 |cons x bs i=>cases h with|cons h t=>show b7 (i t) λq a j h1 h2=>?_;subst j;show dq _ a rfl (.cons h h1) h2
def b6.app{R}(h:b6 R as bs)(g:b6 R j q):b6 R (as++j) (bs++q):=by
 induction h with
 |nil=>show g
 |cons h _ i=>show .cons h i
def b6.len{R}(h:b6 R as bs):as.length=bs.length:=by induction h<;>walk
def b6.agy{R S}(f:∀a b,a∈as->R a b->S a b)(h:b6 R as bs):b6 S as bs:=by
 induction h with
 |nil=>show .nil
 |cons h _ i=>show .cons (f _ _ (d7 ..) h) (i λa b ha=>f a b (dj _ ha))
def b6.apg{R}(h:b6 R as bs):∀a∈as,∃b∈bs,R a b:=by induction h<;>grind
def b6.a37{R S}(f:∀a b,a∈as->b∈bs->R a b->S a b)(h:b6 R as bs):b6 S as bs:=by
 induction h with
 |nil=>show .nil
 |cons h _ i=>show .cons (f _ _ (d7 ..) (d7 ..) h) (i λa b ha j=>f a b (dj _ ha) (dj _ j))
def b6.all{R}{P:j->Prop}(f:∀a b,R a b->P a){as}(h:b6 R as bs):∀a∈as,P a:=by induction h<;>grind
def aph{q:Type}{j}{l:q}(h:j.getLast?=aa l):j=j.dropLast++[l]:=by let W:j≠[]:=λz=>yA;grind[List.dropLast_concat_getLast]
section
variable{X:Cx}{cls:Str->Addr}
def agz(I:Inv X pins σ H s)(h:Rd H a (BY X.prog X.w a es)):
 s.TypeIs (.ref a) "dict"/\(∀b,ko a=.ref b->∃ob,s.heap.get? b=aa ob/\ob.dict=af)/\(a==sf)=ag/\∃o ar ep xs,s.heap.get? a=aa o/\o.ExactDict/\o.data=.dict ar ep/\ar.toList=xs.map (awg (HZ X.prog X.w))/\F2 es xs:=by show QY λz=>d9 (h.ok I.bu) λj _ _=>d9 j λh1 h2 W=>nh W λo ar ep xs k1 k2 k3 k4 zq3_3=>xA zq3_3 λk5 k6=>?_;apply z.f;show⟨(ap o k1 k2.1),λb q=>?_,h1,o,ar,ep,xs,k1,k2,k3,k4,k5⟩;injection q with q;subst q;show ap o k1 k2.2.1
def a38:PE X (.Dict [] [] pos) (λj H Q=>∀p,H p=af->Q (.ref p) (upd H p (BY X.prog X.w p []))):=λpins s W H Q I h=>
 bg8 ⟨.ref s.heap.objs.size,_,I.laid (λj j q=>dg _ q) (b8 _) (agg (i8.mpr (ji (g9 I.big))) (gv _) .nil (bna _) ol),rfl,h _ (I.bu.fresh (b8 _))⟩
def XS(X:Cx)(cls:Str->Addr)(H:Hp)(a b:Addr)(es:ab k8)(k:ab CI):Prop:=H a=aa (BY X.prog X.w a es)/\(∀e∈es,Dr X.K cls H (.ref e.2.1) (.tup (e.1.map D6)))/\Dr X.K cls H (.ref b) (.tup (k.map D6))
section
variable(B:X.A.units+2<jj)
include B
def a39:BS X (ia .NotIn) (λx y H Q=>∃a b es k,x=.ref b/\y=.ref a/\XS X cls H a b es k/\Q (.bl (!(B1 es k).isSome)) H):=by show λpins s σ H x y v u Q I rx ry W=>QY λz=>rl W λa b es k ex ey j q=>d9 j λh1 h2 h3=>?_;clear W j;subst ex ey;cases rx;cases ry;apply z.f;show a21 B I h1 h2 h3 λs' I'=>⟨.bl _,H,I',rfl,q⟩
def a4a(ho:PE X o td)(hi:PE X i ty)(hv:PE X value tv)(hs:uo value (aa (.Subscript o i pos')) pos.line X.env=pure ag):
 PS X (.Assign [.Subscript o i pos'] value pos) (λD j H=>tv j H λv W=>td j W λx H2=>ty j H2 λy H3=>∃a b es k,x=.ref a/\y=.ref b/\XS X cls H3 a b es k/\es.length<aw/\D.nx j (upd H3 a (BY X.prog X.w a (put3 es k b v)))):=by show λpins s j H D I h=>bg7 (bg (hv pins s j H _ I h) λr s1 z=>?_) hs;let⟨v,W,I1,rv,q1⟩:=z;show bg (ho pins s1 j W _ I1 q1) λu s2 zz=>?_;let⟨x,H2,I2,rx,q2⟩:=zz;show bg (hi pins s2 j H2 _ I2 q2) λiv s3 z1=>QY λq=>?_;let⟨y,H3,I3,ry,a,b,es,k,ex,ey,⟨h1,h2,h3⟩,hz,q3⟩:=z1;subst ex ey;cases rx;cases ry;apply q.f;show a22 B I3 h1 h2 h3 hz rv λs4 I4=>(gk j _ I4 q3)
def a4b(ho:PE X o to)(hk:PE X ke tk)(j:attributeBase o "setdefault" X.env (eval o X.env)=eval o X.env)(W:(p1.endLine==p3.line)=ae)(hst:notStar ke=ae):
 PE X (.Call (.Attribute o "setdefault" p1) [ke,.List [] p2] [] p3) (λσ H Q=>to σ H λx H1=>∃a es,x=.ref a/\H1 a=aa (BY X.prog X.w a es)/\WH tk (WH (AAF N0) N0) σ H1 λvs H2=>∃b l k,vs=[.ref b,.ref l]/\XS X cls H2 a b es k/\es.length<aw/\
  (∀e,B1 es k=aa e->Q e.2.2 H2)/\(B1 es k=af->Q (.ref l) (upd H2 a (BY X.prog X.w a (es++[(k,b,.ref l)]))))):=by
 intro pins s σ H Q I h;let hs:∀e∈[ke,bi0 [] p2],notStar e=true:=λe he=>by
  obtain rfl|he:=df.mp he;.show hst
  .rw[fq.mp he];rfl
 show avp j (ua hs (by change 2<20;decide)) W rfl (bg (ho pins s σ H _ I h) λv s1 z=>QY λz0=>?_);let⟨x,H1,I1,r1,a,es,ex,ha,q1⟩:=z;subst ex;cases r1;show d9 (agz I1 (.inl ha)) λt1 t2 _=>?_;apply z0.f;show aas _ _ avw bh5 PySem.F.type_dict_setdefault t1 t2 ?_;let hA:=gc hk (gc (ph fx) fx (dy (show notStar (bi0 [] p2)=ae from rfl))) (dy hst) p3 pins s1 σ H1 _ I1 q1;rw[dy hst]at hA⊢;show MY rfl (ZI (bg hA λus s2 zz=>QY λq=>?_));let⟨vs,H2,I2,r2,b,l,k,ev,⟨g1,g2,g3⟩,hz,qy,qn⟩:=zz;subst ev;let⟨u1,u2,rfl,ru1,ru2⟩:=r2.two;cases ru1;cases ru2;apply q.f;show a23 B I2 g1 g2 g3 hz (v:=.ref l) rfl (λe s' r he I' rr=>⟨_,_,I',rr,qy e he⟩) (λs' he I'=>⟨.ref l,_,I',rfl,qn he⟩)
end
def ItT(P:de)(w:c9)(d:Addr)(o:Obj)(es:ab k8):It:=
 ⟨λi H=>H d=aa (.AN o (BY P w d es))/\i<es.length,λi H x H'=>H'=H/\∃e,es[i]?=aa e/\x=e.2.2,λi H=>H d=aa (.AN o (BY P w d es))/\es.length<=i⟩
def a4c(r:F2 es xs){i:ai}(h:es[i]?=aa e):∃u,xs[i]?=aa (e.1,e.2.1,u)/\RelV e.2.2 u:=by show lz (a00 r h) λj h1 h2 q W=>?_;let⟨k,b,u⟩:=j;walk
def ad5(I:Inv X pins σ H s)(h:H d=aa (.AN o (BY X.prog X.w d es))):
 s.heap.get? d=aa o/\∃q ep xs,o.data=.dict q ep/\q.toList=xs.map (awg (HZ X.prog X.w))/\F2 es xs/\q.size=es.length:=by show QY λz=>ly (agz I (.inr ⟨o,h⟩)) λ_ _ _ j=>nh j λo' q ep xs W k2 k3 k4 k5=>?_;let ho:=(I.bu d _ h).1;rw[ho]at W;injection W with W;subst W;apply z.f;show⟨ho,q,ep,xs,k3,k4,k5,(bh8 k4).trans (UJ k5).symm⟩
def a4d{K}(W)(hod:o.data=.dict ar ep):Turn P w K tg (ItT P w d o es) [W] W (λi h=>h.IsValIter W d i es.length ep)where
 mem:=yS
 obj:=λi h st b j=>by erw[fq.mp j,QY λz5=>bz st λoi e c dd=>?_];apply z5.f;show ap oi e λv z=>by rw[dd]at z;trivial
 keep:=λi h h' st k=>st.at λoi e=>k W yS oi e
 item:=by show λX hP hw hK hc i pins s σ H E I hf st hg=>QY λz2=>?_;subst hP hw hK;let⟨f0,f1,f2,f3,f4,f5⟩:=hf W yS;let⟨ho,ar',ep',xs,k1,k2,k3,k4⟩:=ad5 I hg.1;let⟨rfl,rfl⟩:=amy hod k1;obtain⟨e,he⟩:∃e,es[i]?=aa e:=⟨_,gz hg.2⟩;show au (a4c k3 he) λu B ru=>?_;let hx:=entry_at k2 i;rw[B]at hx;apply z2.f;show a24 st ho k1 k4 hx λh' st' sb=>QY λz1=>bz (id st') λoi q1 q2 q3=>?_;apply z1.f;show ap u rfl (abp q1 q2 q3 yD (jx e.2.2 H (I.turned (λb ob j q=>(sb.2 b j).trans q) f0 f1 f3 f4 f5) ru (aar rfl e he rfl) st' (λb j=>(hf b j).1)))
 done:=by show λX hP hw hK hc i pins s σ H E I hf st hg=>QY λzz=>?_;subst hP hw hK;let⟨f0,f1,f2,f3,f4,f5⟩:=hf W (by simp);let⟨ho,ar',ep',xs,k1,k2,k3,k4⟩:=ad5 I hg.1;let⟨rfl,rfl⟩:=amy hod k1;apply zz.f;show a25 (I.ok.hd hc) st ho k1 k4 hg.2 λh' eb=>⟨rfl,I.turned (λb ob j q=>eb b ob j q) f0 f1 f3 f4 f5⟩
 self:=λA i s Q E st h=>wpAny_pyIter_valiter st h
def a4e(he:PE X e td)(hbase:attributeBase e "values" X.env (eval e X.env)=eval e X.env)(hline:(apos.endLine==cpos.line)=ae):
 PI X tg (.Call (.Attribute e "values" apos) [] [] cpos) (λσ H R=>td σ H λx H1=>∃d o es,x=.ref d/\H1 d=aa (.AN o (BY X.prog X.w d es))/\R (ItT X.prog X.w d o es) H1):=by
 show λpins s σ H R I h=>bha (T:="dict") (id:="dict.values") hbase rfl hline avw bi1 F.type_dict_values (bg (he pins s σ H _ I h) λu W z=>QY λzz=>?_);let⟨x,H1,I1,rx,d,o,es,ex,hd,q⟩:=z;subst ex;cases rx;show ly (agz I1 (.inr ⟨o,hd⟩)) λt1 t2 t3 _=>xA (ad5 I1 hd) λho j=>fh j λar ep xs k1 k2 k3 k4=>?_;clear j;apply zz.f;show⟨t1,t2,?_⟩;show MY rfl (avo (sj bi1 t1 F.entry_dict_values (aq ?_) (F.args_dict_values_1 _)));delta bnb;show aq (bh6 t1 ?_);change ax _ _ (pure d) _ _ W;show b4 ?_;change ax _ _ (bi2 d>>=_) _ _ W;delta bi2;erw[t3,ao gy,aq (b4 (aq (MX (b4 (ap _ rfl ?_)))))];generalize hv:W.heap.push {cls:=.type "dict_values",data:=.fields #[.ref d]}=hp;let I2:Inv X pins σ H1 {W with heap:=hp}:=by subst hv;show I1.kept (t':=W.toks) λb ob q=>dg _ q
 let vv:hp.IsValuesView W.heap.objs.size d:=by subst hv;show et _ (f7 _ rfl) rfl rfl
 show bz (id vv) λov w1 w2 w3=>?_;obtain⟨ho2,-⟩:=ad5 I2 hd;let tv:bi3 {W with heap:=hp} (.ref W.heap.objs.size) "dict_values":=(ap ov w1 w2);show wpAny_pyIter_slot tv bi4 (sj bi4 tv F.entry_dict_values_iter ?_ (F.args_dict_values_iter_1 _));delta Builtin.«dict_values.__iter__»;show aq (b4 (aq ?_));delta bnc;show aq (lq w1 w3 (x:=.ref d) rfl (b4 (aq ?_)));delta bnd;show aq (Z0 (s:={W with heap:=hp}) ho2 k1 (aq (awi (s:={W with heap:=hp}) ho2 k1 ?_)));rwa[show bnf "dict_valueiterator"=ag from yD,U3,yg];show MX (b4 ⟨_,rfl,"dict_valueiterator",_,(ap _ (f7 _ rfl) rfl),U8.lookup,(af7 (tk:=W.toks) I2 _ (a4d _ k1) (et _ (f7 _ rfl) rfl ?_) q)⟩);rw[k4];rfl
end
section
variable{Γ:Ctx}{X:Cx}
set_option tactic.hygienic true in
def ag0{e:Expr}(h:isNil e=ae):∃p,e=.List [] p:=by
 cases e<;>try show nb h
 next l _=>
 cases l<;>try show nb h
 show⟨_,rfl⟩
def api(h:F4 r=aa l):r=aa (.lst l):=by delta F4 at h;k_lt h;all_goals grind
def apj(h:ownOf r=aa l):r=aa (.own l):=by delta ownOf at h;k_lt h;all_goals grind
def a4f(h:A9 Γ n fl sc η (.List es p)=aa (.lst l)):∃m,n=m+1/\es.length<=1000/\FF (A9 Γ m fl sc η) es=aa l:=by
 cases n with
 |zero=>trivial
 |succ m=>change ite _ _ _=_ at h;walk
def a4g(h:R6 r=aa p):r=aa (.d8 p.1 p.2):=by
 delta R6 at h;k_lt h;.grind
 .trivial
def a4h(h:R5 r=aa p):r=aa (.ij p.1 p.2):=by
 delta R5 at h;k_lt h;.grind
 .trivial
def ag1(h:K8 r=aa p):r=aa (.gg p):=by delta K8 at h;k_lt h;all_goals grind
def apk(h:F5 r=aa l):r=aa (.lst l)\/r=aa (.tup l):=by delta F5 at h;k_lt h;all_goals grind
def a4i(h:bump l j b=aa q):∃i x y,DU l.length j=aa i/\b=aa (.int y)/\l[i]?=aa (.int x)/\q=l.set i (.int (x+y)):=by
 delta bump at h;k_lt h;.k_lt h;all_goals walk
 .trivial
def AJ.set{K}(r:Dr K cls H v d):∀{vs}{ds}(i),AJ K cls H vs ds->AJ K cls H (vs.set i v) (ds.set i d)
 |_,[],_,h=>by cases h;rfl
 |_,_::_,0,h=>by show b7 h λ_ _ j a b=>?_;subst j;show .cons r b
 |_,_::_,i+1,h=>by show b7 h λ_ _ q a b=>?_;subst q;show .cons a (AJ.set r i b)
section
variable{K:ba}{F O:Addr->a4}{B H H':Hp}{A:L2.St}{E:ab Sl}
section
variable(e:ER Γ K F B O H A E)
include e
def ER.ag2(w:l9 Γ K F B O H A E M)(hv:A[i]?=aa (aa (.ref a)))(ha:M i a=ae)(hs:s'.EF=ae)
 (r:∀Hr,AH (rs O H) Hr->EG Γ.pw K Γ.cls Hr (upd H a ho) (M i) s' (.ref a)):∃O',ER Γ K F B O' (upd H a ho) A (E.set i s'):=by
 let ne:∀b,H b≠af->upd H a ho b≠none:=λb h=>by
  by_cases z:b=a;.simp_all[cy]
  simp_all[a9]
 show⟨_,e.turn w hv (λb o q h=>?_) (λb hb=>⟨.inr hb,ne b (e.has b (w.fj i b hb).1)⟩) (λb hb=>ne b (e.has b hb)) hs (r _ λb o q=>?_)⟩;.rw[a9 (λz=>by grind)];omega
 .let nb:O b=false:=by simp_all[rs]
  let nm:M i b=false:=by
   cases z:M i b with
   |false=>rfl
   |true=>rw[(w.fj i b z).1]at nb;omega
  delta rs;erw[ao (by grind),a9 (λz=>by grind),(cq _ _ _ _ q)]
def ER.list(ho:E[i]?=aa (.own l)):∃a xs,A[i]?=aa (aa (.ref a))/\H a=aa (.lst xs)/\AJ K Γ.cls (rs O H) xs l/\
 ∀{H1}(s1:AH H H1){j}{l'},AJ K Γ.cls (rs O H1) j l'->∃O',ER Γ K F B O' (upd H1 a (.lst j)) A (E.set i (.own l')):=by let⟨M,w⟩:=e.own;show au (w.at_ i _ ho rfl) λv g1 W=>fg W λa xs zq8_2 g2 g3 g4=>?_;subst zq8_2;show ic a xs g1 g3 g4 (fun{H1}s1{j l'}r=>((e.up s1).ag2 (⟨λi s' h1 h2=>au (w.at_ i s' h1 h2) λv q1 q2=>(ap v q1 (q2.mono (λb o ζ q=>s1 _ _ q) (AH.rs O s1) λζ q=>q)),w.fj,w.ds⟩) g1 g2 rfl λHr sr=>(ic a j rfl g2 cy (r.up sr))))
def ER.dict(ho:E[i]?=aa (.ij ks l)):∃a kvs,A[i]?=aa (aa (.ref a))/\H a=aa (.dK kvs)/\kvs.map (·.1)=ks/\AJ K Γ.cls (rs O H) (kvs.map (·.2)) l/\
 ∀{H1}(s1:AH H H1){j}{l'},AJ K Γ.cls (rs O H1) (j.map (·.2)) l'->∃O',ER Γ K F B O' (upd H1 a (.dK j)) A (E.set i (.ij (j.map (·.1)) l')):=by let⟨M,w⟩:=e.own;show au (w.at_ i _ ho rfl) λv g1 W=>lg W λa kvs zq15_2 g2 g3 g4 g5=>?_;subst zq15_2;show jx a kvs g1 g3 g4 g5 (fun{H1}s1{j l'}r=>((e.up s1).ag2 (⟨λi s' h1 h2=>au (w.at_ i s' h1 h2) λv q1 q2=>(ap v q1 (q2.mono (λb o ζ q=>s1 _ _ q) (AH.rs O s1) λζ q=>q)),w.fj,w.ds⟩) g1 g2 rfl λHr sr=>(jx a j rfl g2 cy rfl (r.up sr))))
def ER.ab8(hi:i<A.length)(hm:Nm Γ i)(hp:H p=af)(j:AH H H')(q:H' p≠af)(W:s.EF=ae)(r:EG Γ.pw K Γ.cls (rs (λb=>O b||(b==p)) H') H' (λb=>b==p) s (.ref p)):
 ER Γ K F B (λb=>O b||(b==p)) H' (A.set i (aa (.ref p))) (E.set i s):=
 e.ao5 hi hm j (λb hb=>by grind) W r
end
def apl(hp:H p=af):AH (rs O H) (rs (λb=>O b||(b==p)) (upd H p o)):=λb u q=>by
 let W:O b=false:=by simp_all[rs]
 let j:=cq _ _ _ _ q;delta rs;rw[ao,a9 (fw j hp),j];grind
end
def SJ(Γ:Ctx)(X:Cx)(W:ab Stmt)(f:(ab Sl->ah Out)->ah Out)(E:ab Sl):Prop:=
 ∀K j,f K=aa j->∀F B O A H D,ER Γ X.K F B O H A E->A.length=Γ.N.length->
  (∀ξ' O' q H',K ξ'=aa j->ER Γ X.K F B O' H' q ξ'->q.length=Γ.N.length->D.nx q H')->(∀d,j=.ret d->∀v H',AH B H'->Dr X.K Γ.cls (rs F H') v d->D.rt v H')->wS X W D A H
def SJ.s(h:SJ Γ X ss f E):SI Γ X E ss (f λξ'=>aa (.next ξ')):=by
 show λj ho F B O A H D e hl hw=>h _ j ho F B O A H D e hl (λξ' O' q H' L e' W=>?_) (λd hd v H' s' dv=>?_);.cases L;show hw O' q H' e' W
 .subst hd;show hw v H' s' dv
section
variable(G:GX Γ X ae sc)(L:sc.kind=.function)(J:∀x,X.fn x=ae)
include G L J
def a4j{n:ai}{E}{K:ab Sl->ah Out}{out}{x}{px p1 p2 sp}{i}(hx:C1 sc x=ae/\EQ Γ.fi x=ae)(hi:slot Γ.N x=aa i)(hK:K (E.set i (.gg [[]]))=aa out){F}{B}{O}{A}{H}{D}(e:ER Γ X.K F B O H A E)(hl:A.length=Γ.N.length)(hw:∀ξ' O' σ' H',K ξ'=aa out->ER Γ X.K F B O' H' σ' ξ'->σ'.length=Γ.N.length->D.nx σ' H'):CW X (.Assign [.Name x px] (.List [.List [] p1] p2) sp) D A H:=by
 let⟨l1,l2⟩:=pz G J hx.1;show PS.w (nk (by erw[G.N,G.nd]) (by erw[G.N,slot_get hi]) l1 (ph (gc (ph fx) fx)) (rq rfl) l2) ⟨gv _,λp hp=>⟨ad4 (by change 1<=1000;decide),λq hq=>?_⟩⟩;let np:p≠q:=λz=>by subst z;rw[cy]at hq;cases hq
 show hw _ _ _ _ hK (e.ao5 (N:=λb=>(b==p)||(b==q)) (by erw[hl,lj hi]) (r6 hx.2 hi) ((AH.new hp).trans (AH.new hq)) (λb hb=>?_) rfl (jx q [p] rfl ?_ cy ?_ (.cons (aar ?_ [] ?_ (.nil)) .nil))) (by erw[qj,hl])
 .rw[jb]at hb;obtain z|z:=hb;.let:=eq_of_beq z;subst this;show⟨hp,by erw[a9 np,cy,λq=>by cases q]⟩
  simp_all[a9,ji,cy]
 .simp
 .simp;show ji np
 .simp
 .rw[a9 np,cy]
def a4k{n}{E}{K:ab Sl->ah Out}{q}{x}{px p sp}{es}{i}{l}(hx:C1 sc x=ae/\EQ Γ.fi x=ae)(hi:slot Γ.N x=aa i)(hd:F4 (A9 Γ n ae sc (vals (AN Γ.N (F3 es) E)) (.List es p))=aa l)(hK:K ((AN Γ.N (F3 es) E).set i (.own l))=aa q){F}{B}{O}{A}{H}{D}(e:ER Γ X.K F B O H A E)(hl:A.length=Γ.N.length)(hw:∀ξ' O' j H',K ξ'=aa q->ER Γ X.K F B O' H' j ξ'->j.length=Γ.N.length->D.nx j H'):CW X (.Assign [.Name x px] (.List es p) sp) D A H:=by show bz (a4f (api hd)) λm zq23_1 W hds=>?_;let⟨O',hO',e'⟩:=e.je (km Γ.N _ E);let⟨l1,l2⟩:=pz G J hx.1;show PS.w (nk (by erw[G.N,G.nd]) (by erw[G.N,slot_get hi]) l1 (ph (i6 X es)) (rq rfl) l2) (ab2 es l (λe ζ=>(jt Γ m).1 X ae sc G _ e) hds O' A H _ e'.has e'.vr λvs H1 s1 d1=>⟨?_,λp hp=>hw _ _ _ _ hK ((e'.up s1).ab8 (by erw[hl,lj hi]) (r6 hx.2 hi) hp (AH.new hp) (by simp[cy]) rfl (ic p vs rfl (gp p) cy (d1.up (apl hp)))) (by grind)⟩);.erw[d1.length,zu hds,ad4 W]
def a4l{n}{E}{K:ab Sl->ah Out}{out}{x}{px p sp}{elt tg iter}{ifs}{j}{i}{l}(hx:C1 sc x=ae)(hxm:EQ Γ.fi x=ae)(hi:slot Γ.N x=aa i)(hd:F4 (A9 Γ n ae sc (vals (AN Γ.N (AL (.ListComp elt [⟨tg,iter,ifs,0⟩] j p)) E)) (.ListComp elt [⟨tg,iter,ifs,0⟩] j p))=aa l)(hK:K ((AN Γ.N (AL (.ListComp elt [⟨tg,iter,ifs,0⟩] j p)) E).set i (.own l))=aa out){F}{B}{O}{A}{H}{D}(e:ER Γ X.K F B O H A E)(hl:A.length=Γ.N.length)(hw:∀ξ' O' σ' H',K ξ'=aa out->ER Γ X.K F B O' H' σ' ξ'->σ'.length=Γ.N.length->D.nx σ' H'):CW X (.Assign [.Name x px] (.ListComp elt [⟨tg,iter,ifs,0⟩] j p) sp) D A H:=by
 let hd:=api hd;let⟨O',hO',e'⟩:=e.je (km Γ.N _ E);let⟨l1,l2⟩:=pz G J hx;cases n with
 |zero=>cases hd
 |succ m=>
  show fh (aov (jt Γ m).1 (jt Γ m).2 G hd) λouts own tt eo _ hsl W=>jc W λhb hnm hset pts rd=>?_;clear W;cases eo;let fin:IL (wI X tg iter) (bG X j tg) tt (bE X j elt) (own.map (·.2)) A H (λv H1=>NX i v A H1 D.nx):=by show rd O' A H _ e'.has e'.vr hl λq acc H' hq s' hacc r=>(hw _ _ _ _ hK (e'.ab8 (by erw[hl,lj hi]) (r6 hxm hi) hq s' (by erw[hacc,λq=>by cases q]) rfl (ic q acc rfl (gp q) hacc r)) (by erw[qj,hl]))
  by_cases hsw:(X.env.scope.names.lookup x=aa .local/\(px.line==p.line)=ae/\(j.names.any fun(n,k)=>n==x&&(k==.local||k==.cell))=ag);.show d9 hsw λw1 w2 w3=>PS.w (a0c G.calm (by erw[G.N,G.nd]) (by erw[G.N,slot_get hi]) w1 (a0d (by erw[G.K4 rfl,L]) w1 w2 w3) (agi X tg iter) (by erw[G.N,G.K4 rfl,aoq hb (agq hsl)])
    (λs0 H0 C cl fp pins s A H v u Q I r h=>au (h s0 H0 C cl fp) λg pg hg=>pg pins s A H v u Q I r hg) pts (λs0 H0 C cl fp pins s A H Q I h=>h s0 H0 C cl fp pins s I) (λx=>by cases iter<;>first|trivial)) fin
  .show PS.w (nk (by erw[G.N,G.nd]) (by erw[G.N,slot_get hi]) l1 (aor G hsl hb hset pts) ?_ l2) fin;let sw:uo (.ListComp elt [⟨tg,iter,ifs,0⟩] j p) (aa (.Name x px)) sp.line X.env=pure (X.env.blockKind==.function&&X.env.kindOf x==aa .local&&px.line==p.line&&!_):=rfl;rw[sw];cases z:(X.env.blockKind==.function&&X.env.kindOf x==aa .local&&px.line==p.line&&!_)with
   |false=>rfl
   |true=>exfalso;rw[cg,cg,cg,ajo]at z;show hsw ⟨eq_of_beq z.1.1.2,z.1.2,z.2⟩
end
def p6(G:GX Γ X fl sc)(j:B5 sc x=ae)(hi:slot Γ.N x=aa i):PE X (.Name x px) (NW i):=by delta B5 at j;rw[cg]at j;let q:=ff j.2;show js (by erw[G.N,slot_get hi]) (G.nt _ j.1) (ll q.1) (ll q.2)
section
variable(G:GX Γ X ae sc)(L:sc.kind=.function)(J:∀x,X.fn x=ae)
include G L J
def a4m{n:ai}{E}{K:ab Sl->ah Out}{out}{x y}{px py apos cpos sp}{i j}{ls}{l}(hy:C1 sc y=ae)(hym:EQ Γ.fi y=ae)(hxn:B5 sc x=ae)(hln:(apos.endLine==cpos.line)=ae)(hxy:x≠y)(hi:slot Γ.N x=aa i)(hj:slot Γ.N y=aa j)(hls:K8 E[i]?=aa ls)(hlast:ls.getLast?=aa l)(hK:K ((E.set i (.gg ls.dropLast)).set j (.own l))=aa out){F}{B}{O}{A}{H}{D}(e:ER Γ X.K F B O H A E)(hl:A.length=Γ.N.length)(hw:∀ξ' O' σ' H',K ξ'=aa out->ER Γ X.K F B O' H' σ' ξ'->σ'.length=Γ.N.length->D.nx σ' H'):CW X (.Assign [.Name y py] (.Call (.Attribute (.Name x px) "pop" apos) [] [] cpos) sp) D A H:=by
 let ho:=ag1 hls;let hij:i≠j:=λz=>by subst z;let:=slot_get hi;rw[slot_get hj]at this;show hxy (fo this).symm
 let⟨l1,l2⟩:=pz G J hy;show PS.w (nk (by erw[G.N,G.nd]) (by erw[G.N,slot_get hj]) l1 (al5 yj bg4 PySem.F.type_list_pop az0 (p6 G hxn hi) (kl rfl) hln) (rq rfl) l2) ?_;let⟨M,w⟩:=e.own;show au (w.at_ i _ ho rfl) λv g1 zq35_1=>lg zq35_1 λa bs zq35_2 g2 g3 g4 g5=>?_;clear zq35_1;subst zq35_2;rw[aph hlast]at g5;let⟨bs',b,rfl,k1,k2,xs,k3,k4⟩:=apf g5;rw[fe,b9,VA]at g3;show⟨_,g1,.inl ⟨rfl,_,AR.of g3⟩,a,_,.ref b,rfl,rfl,g3,?_,?_⟩;.erw[e9,bi5]
 let nab:b≠a:=λz=>by subst z;show(gd.mp g4).1 (mn _ (fq.mpr rfl))
 let hne:∀c,H c≠af->upd H a (.lst ((bs'.map V.ref++[V.ref b]).dropLast)) c≠none:=λc hc=>by
  by_cases z:c=a;.subst z;erw[cy,λq=>by cases q]
  .erw[a9 z,hc]
 let sm:AH (rs O H) (rs O (upd H a (.lst ((bs'.map V.ref++[V.ref b]).dropLast)))):=λc o q=>by
  delta rs at q⊢;by_cases z:O c=ae;.rw[aj z]at q;cases q
  .erw[a9 (λy=>z (by erw[y,(w.fj i a g2).1])),q]
 show hw _ O _ _ hK (e.agt w (T:=λt=>t=i\/t=j) (M':=λt c=>if t=i then M i c&&(!(c==b))else if t=j then(c==b)else M t c) (λζ q=>q) (λζ q=>.inl q) (λc hc=>hne c (e.has c hc)) (λc o q hM=>?_) (λt ht c hc=>?_) (λt ht c hc=>?_) (λt c ht hc=>?_) (λt u c ht hu h1 h2=>?_) (λt ht=>ir (λz=>ht (.inr z.symm))) (λt ht=>?_) (λt ht=>?_) (λt s ht hs=>?_)).1 (by erw[qj,hl]);.erw[a9 (λz=>by subst z;let:=hM i (.inl rfl);rw[g2]at this;cases this),q]
 .rwa[ao (λz=>ht (.inl z)),ao (λz=>ht (.inr z))]at hc;show hc
 .rwa[ao (λz=>ht (.inl z)),ao (λz=>ht (.inr z))];show hc
 .by_cases z:t=i;.rwa[aj z]at hc;rw[cg]at hc;show⟨(w.fj i c hc.1).1,.inr ⟨i,.inl rfl,hc.1⟩⟩
  .rwa[ao z,aj (ht.resolve_left z)]at hc;let:=eq_of_beq hc;subst this;show⟨(w.fj i c k2).1,.inr ⟨i,.inl rfl,k2⟩⟩
 .by_cases z1:t=i
  .by_cases z2:u=i;.show z1.trans z2.symm
   .rwa[aj z1]at h1;rwa[ao z2,aj (hu.resolve_left z2)]at h2;rw[h2]at h1;simp at h1
  .let z1':t=j:=ht.resolve_left z1;by_cases z2:u=i;.rwa[ao z1,aj z1']at h1;rwa[aj z2]at h2;rw[h1]at h2;simp at h2
   .show z1'.trans (hu.resolve_left z2).symm
 .rw[ir (λz=>ht (.inr z.symm)),ir (λz=>ht (.inl z.symm))]
 .obtain rfl|rfl:=ht;.show .inr (ir (ji hij))
  .show .inl (r6 hym hj)
 .by_cases z:t=j
  .subst z;obtain⟨_,z⟩|⟨z,_⟩:=aa2 hs
   .subst z;show .inr (.inr ⟨rfl,.ref b,QE (by erw[hl,lj hj]),b,xs,rfl,?_,?_,k4.up sm⟩);.rwa[ao (ji hij),jk];show gp b
    .erw[a9 nab,k3]
   .show cj rfl z
  .let z1:t=i:=ht.resolve_right z;subst z1;rw[ir (λq=>z q.symm)]at hs;obtain⟨_,z⟩|⟨z,_⟩:=aa2 hs
   .subst z;show .inr (.inr ⟨rfl,.ref a,by erw[ir (λq=>z q.symm),g1],a,bs',rfl,?_,?_,(J0.mp g4).1,?_⟩);.rwa[jk];rw[g2,i8.mpr (ji nab)];rfl
    .rw[cy,awo]
    .let nb:b∉bs':=λhb=>by show(J0.mp g4).2.2 b (dj _ hb) b (fq.mpr rfl) rfl
     show k1.agy λc m hc⟨q1,ys,q2,q3⟩=>⟨?_,ys,?_,q3.up sm⟩;.rwa[jk];rw[q1,i8.mpr (λz=>nb (by erw[<-z,hc]))];rfl
     .erw[a9 (λz=>(gd.mp g4).1 (JL _ (by erw[<-z,hc]))),q2]
   .show cj rfl z
def a4n{n}{E}{K:ab Sl->ah Out}{out}{x}{px p sp}{j W}{i}{dk d}{kk}(hx:C1 sc x=ae/\EQ Γ.fi x=ae)(hi:slot Γ.N x=aa i)(hdk:A9 Γ n ae sc (vals (AN Γ.N (AL j++AL W) E)) j=aa dk)(hkk:keyOf dk=aa kk)(hd:A9 Γ n ae sc (vals (AN Γ.N (AL j++AL W) E)) W=aa d)(hK:K ((AN Γ.N (AL j++AL W) E).set i (.ij [kk] [d]))=aa out){F}{B}{O}{A}{H}{D}(e:ER Γ X.K F B O H A E)(hl:A.length=Γ.N.length)(hw:∀ξ' O' σ' H',K ξ'=aa out->ER Γ X.K F B O' H' σ' ξ'->σ'.length=Γ.N.length->D.nx σ' H'):CW X (.Assign [.Name x px] (.Dict [aa j] [W] p) sp) D A H:=by
 let iE:=λη e=>(jt Γ n).1 X ae sc G η e;show au (e.je (km Γ.N (AL j++AL W) E)) λO' hO' e'=>?_;let⟨l1,l2⟩:=pz G J hx.1;show PS.w (nk (by erw[G.N,G.nd]) (by erw[G.N,slot_get hi]) l1 (a0s (a0r (cf X j) (cf X W) a0q) rfl rfl (λz=>by cases z) (by change 1<=15;decide)) (rq rfl) l2) ?_;intro q hq;let hq1:BU (λb=>O' b||(b==q)) (upd H q (.dK [])):=λb hb z=>by
  rw[jb]at hb;obtain hb|hb:=hb;.show(e'.has.up (AH.new hq)) b hb z
  .rw[eq_of_beq hb,cy]at z;cases z
 let v1:=e'.vr.add (o:=.dK []) hq;show iE _ _ dk hdk _ A _ _ hq1 v1 λw1 H1 s1 d1=>iE _ _ d hd _ A _ _ (hq1.up s1) (v1.up s1) λw2 H2 s2 d2=>?_;let hv1:=ab3 hkk d1;subst hv1;show⟨(s2 _ _ (s1 _ _ cy)),[(kk,w2)],rfl,by change 1<=15;decide,?_⟩;let sq:AH H (upd H2 q (.dK [(kk,w2)])):=λc o hc=>by erw[a9 (fw hc hq),s2 _ _ (s1 _ _ ((AH.new hq) _ _ hc))]
 show hw _ _ _ _ hK (e'.ab8 (s:=.ij [kk] [d]) (by erw[hl,lj hi]) (r6 hx.2 hi) hq sq (by erw[cy,λq=>by cases q]) rfl (jx q [(kk,w2)] rfl (gp q) cy rfl (.cons (d2.up λc o hc=>?_) .nil))) (by erw[qj,hl]);delta rs at hc⊢;by_cases z:(O' c||(c==q))=ae;.rw[aj z]at hc;cases hc
 .erw[a9 (λy=>z (by rw[y,gp,awp])),hc]
def a4o{n}{E}{K:ab Sl->ah Out}{out}{x}{px sp p0 pos0}{a}{i}{p}(hx:(C1 sc x=ae/\EQ Γ.fi x=ae))(hi:slot Γ.N x=aa i)(hg:EO sc "dict"=ae)(hst:notStar a=ae)(hd:R6 (A9 Γ n ae sc (vals (AN Γ.N (AL a) E)) a)=aa p)(hK:K ((AN Γ.N (AL a) E).set i (.ij p.1 p.2))=aa out){F}{B}{O}{A}{H}{D}(e:ER Γ X.K F B O H A E)(hl:A.length=Γ.N.length)(hw:∀ξ' O' W H',K ξ'=aa out->ER Γ X.K F B O' H' W ξ'->W.length=Γ.N.length->D.nx W H'):CW X (.Assign [.Name x px] (.Call (.Name "dict" p0) [a] [] pos0) sp) D A H:=by let⟨l1,l2⟩:=pz G J hx.1;let⟨O',hO',e'⟩:=e.je (km Γ.N _ E);show PS.w (nk (by erw[G.N,G.nd]) (by erw[G.N,slot_get hi]) l1 (adf a36 (G.gl _ hg) (G.gu _ yD) boot_dict (gc (cf X a) fx (dy hst)) yD (rfl) (dy hst) rfl) (rq rfl) l2) ((λη e=>(jt Γ n).1 X ae sc G η e) _ _ _ (a4g hd) O' A H _ e'.has e'.vr λv H1 s1 d1=>fg d1 λ_ _ j g1 g2 g3=>?_);subst j;show dq _ _ rfl (cq _ _ _ _ g1) λq hq=>(hw _ _ _ _ hK ((e'.up s1).ab8 (by erw[hl,lj hi]) (r6 hx.2 hi) hq (AH.new hq) (by simp[cy]) rfl (jx q _ rfl (gp q) cy g2 (g3.up (apl hq)))) (by grind))
def a4p{n}{E}{K:ab Sl->ah Out}{W}{x}{px sp}{q}{i}{d}(hx:C1 sc x=ae/\EQ Γ.fi x=ae)(hcmp:IW q=ag)(hi:slot Γ.N x=aa i)(hd:A9 Γ n ae sc (vals (AN Γ.N (AL q) E)) q=aa d)(hK:K ((AN Γ.N (AL q) E).set i (.val d))=aa W){F}{B}{O}{A}{H}{D}(e:ER Γ X.K F B O H A E)(hl:A.length=Γ.N.length)(hw:∀ξ' O' j H',K ξ'=aa W->ER Γ X.K F B O' H' j ξ'->j.length=Γ.N.length->D.nx j H'):CW X (.Assign [.Name x px] q sp) D A H:=by let⟨l1,l2⟩:=pz G J hx.1;let⟨O',hO',e'⟩:=e.je (km Γ.N _ E);show PS.w (nk (by erw[G.N,G.nd]) (by erw[G.N,slot_get hi]) l1 (cf X q) (rq hcmp) l2) ((λη e=>(jt Γ n).1 X ae sc G η e) _ _ d hd O' A H _ e'.has e'.vr λv H1 s1 d1=>(hw _ _ _ _ hK ((e'.up s1).put (by erw[hl,lj hi]) (r6 hx.2 hi) d1) (by grind)))
def a4q{n}{E}{K:ab Sl->ah Out}{out}{x}{px sp0 sp}{q j}{i}{p}{dk d}{kk}(hx:(GH sc x=ae/\decide (x≠"__debug__"/\x≠"__classdict__")=ae)/\IW j=ag)(hi:slot Γ.N x=aa i)(hp0:R5 (AN Γ.N (AL q++AL j) E)[i]?=aa p)(hd:A9 Γ n ae sc (vals (AN Γ.N (AL q++AL j) E)) j=aa d)(hdk:A9 Γ n ae sc (vals (AN Γ.N (AL q++AL j) E)) q=aa dk)(hkk:keyOf dk=aa kk)(hz:p.1.length<aw)(h:K ((AN Γ.N (AL q++AL j) E).set i (.ij (D1 p.1 kk) (E4 p.1 p.2 kk d)))=aa out){F}{B}{O}{A}{H}{D}(e:ER Γ X.K F B O H A E)(hl:A.length=Γ.N.length)(hw:∀ξ' O' W H',K ξ'=aa out->ER Γ X.K F B O' H' W ξ'->W.length=Γ.N.length->D.nx W H'):CW X (.Assign [.Subscript (.Name x px) q sp0] j sp) D A H:=by let iE:=λη e=>(jt Γ n).1 X ae sc G η e;let hn:=ff hx.1.2;let⟨O',hO',e'⟩:=e.je (km Γ.N _ E);show PS.w (amq (js (by erw[G.N,slot_get hi]) (G.nt _ hx.1.1) (ll hn.1) (ll hn.2)) (cf X q) (cf X j) (rq hx.2)) (iE _ _ d hd O' A H _ e'.has e'.vr λv H1 s1 d1=>?_);let e1:=e'.up s1;show QY λz=>lg (e1.dict (a4h hp0)) λa kvs g1 g2 g3 g4 g5=>?_;apply z.f;show⟨_,g1,(iE _ _ dk hdk O' A H1 _ e1.has e1.vr λy H2 s2 d2=>?_)⟩;let:=ab3 hkk d2;subst this;show dq a _ rfl (KN.k (s2 _ _ g2) (by rw[show kvs.length=p.1.length by rw[<-g3,bt]];omega)) ?_;let⟨O2,e2⟩:=g5 s2 (ape (d1.up (AH.rs O' s2)) kvs p.2 (g4.up (AH.rs O' s2)));rw[apd,g3]at e2;show hw _ _ _ _ h e2 hl
def a4r{n}{E}{K:ab Sl->ah Out}{out}{x}{px u2 sp0 sp}{j}{u1}{e0}(hx:B5 sc x=ae)(hj0:0<=j)(h:((slot Γ.N x).bind λi=>(ownOf (AN Γ.N (AL e0) E)[i]?).bind λl=>(bump l j (A9 Γ n ae sc (vals (AN Γ.N (AL e0) E)) e0)).bind λl'=>K ((AN Γ.N (AL e0) E).set i (.own l')))=aa out){F}{B}{O}{A}{H}{D}(e:ER Γ X.K F B O H A E)(hl:A.length=Γ.N.length)(hw:∀ξ' O' W H',K ξ'=aa out->ER Γ X.K F B O' H' W ξ'->W.length=Γ.N.length->D.nx W H'):CW X (.AugAssign (.Subscript (.Name x px) (.Constant (.int j) u1 u2) sp0) .Add e0 sp) D A H:=by
 let⟨i,hi,h⟩:=ay h;let⟨l,hl0,h⟩:=ay h;let⟨l',hb,hK⟩:=ay h;let⟨O',hO',e'⟩:=e.je (km Γ.N _ E);show fh (a4i hb) λt xx yy b1 b2 b3 q=>?_;subst q;show fg (e'.list (apj hl0)) λa xs g1 g2 g4 g5=>?_;let⟨vv,hvv,rvv⟩:=g4.get b3;cases rvv;let ht:=by
  delta DU at b1;rw[aj hj0]at b1;k_lt b1;.show(fo b1).symm
  .trivial
 show PS.w (ayf (p6 G hx hi) abm a35 (cf X e0) ayg set_list λζ ζ ζ=>rfl) ⟨_,g1,a,xs,j,_,rfl,rfl,hj0,g2,by rw[<-ht];omega,((λη e=>(jt Γ n).1 X ae sc G η e) _ _ _ b2 O' A H _ e'.has e'.vr λy H1 s1 d1=>?_)⟩;cases d1;show⟨xx,yy,rfl,rfl,a,xs,j,t,rfl,rfl,s1 _ _ g2,by rw[g4.length];omega,?_⟩;let⟨O2,e2⟩:=g5 s1 (AJ.set (.int _) t (g4.up (AH.rs O' s1)));show hw _ _ _ _ hK e2 hl
def a4s{K}(hx:B5 sc x=ae)(W:notStar a=ae)(hln:(apos.endLine==cpos.line)=ae)(h:R9 Γ sc n E K x m a=aa out){D}(e:ER Γ X.K F B O H A E)(hl:A.length=Γ.N.length)(hw:∀ξ' O' σ' H',K ξ'=aa out->ER Γ X.K F B O' H' σ' ξ'->σ'.length=Γ.N.length->D.nx σ' H'):CW X (.Expr (.Call (.Attribute (.Name x px) m apos) [a] [] cpos) sp) D A H:=by
 let iE:=λη e=>(jt Γ n).1 X ae sc G η e;delta R9 at h;rw[aj hx]at h;let⟨i,hi,h2⟩:=ay h;clear h;show au (e.je (km Γ.N (AL a) E)) λO' hO' e'=>?_;let hs:∀e∈[a],notStar e=true:=λe he=>by
  obtain rfl|he:=df.mp he;.show W
  .cases he
 let pvx:=p6 (px:=px) G hx hi;k_lt h2;.
  ext ho0;let ho:=ag1 ho0;k_lt h2
  .ext hc;rw[cg,cg]at hc;let⟨⟨hm,hnil⟩,hz⟩:=hc;let em:=ff hm;subst em;let hz:=ff hz;let⟨pn,rfl⟩:=ag0 hnil;show PS.w (vg (vh yj QN VB abt pvx (gc (ph fx) fx (dy W)) (kl rfl) (ua hs (by change 1<20;decide)) hln (dy W) rfl) rfl) ?_;let⟨M,w⟩:=e'.own;show au (w.at_ i _ ho rfl) λv g1 zq67_1=>lg zq67_1 λad bs zq67_2 g2 g3 g4 g5=>?_;clear zq67_1;subst zq67_2;show⟨_,g1,.inl ⟨rfl,_,AR.of g3⟩,gv _,λp hp=>?_⟩;let npa:ad≠p:=fw g3 hp;show⟨ad,_,.ref p,rfl,rfl,by erw[a9 npa,g3],by erw[bt,g5.len,hz],?_⟩;let hne:∀c,H c≠af->upd (upd H p (.lst [])) ad (.lst (bs.map V.ref++[V.ref p])) c≠none:=λc hc=>by
    by_cases z:c=ad;.subst z;erw[cy,λq=>by cases q]
    .rw[a9 z];by_cases z2:c=p;.subst z2;show cj hp hc
     .erw[a9 z2,hc]
   let sm:AH (rs O' H) (rs (λc=>O' c||(M i c||(c==p))) (upd (upd H p (.lst [])) ad (.lst (bs.map V.ref++[V.ref p])))):=λc o q=>by
    let nO:O' c=false:=by
     cases z:O' c with
     |false=>rfl
     |true=>delta rs at q;rw[aj z]at q;cases q
    let q2:=cq _ _ _ _ q;let nM:M i c=false:=by
     cases z:M i c with
     |false=>rfl
     |true=>rw[(w.fj i c z).1]at nO;cases nO
    delta rs;rw[ao,a9 (λz=>by subst z;rw[g2]at nM;cases nM),a9 (fw q2 hp)];.show q2
    .change¬(O' c||(M i c||(c==p)))=ae;erw[nO,nM,i8.mpr (fw q2 hp),gy]
   let g5':b6 (λb l=>(M i b||(b==p))=ae/\∃xs,upd (upd H p (.lst [])) ad (.lst (bs.map V.ref++[V.ref p])) b=aa (.lst xs)/\AJ X.K Γ.cls (rs (λc=>O' c||(M i c||(c==p))) (upd (upd H p (.lst [])) ad (.lst (bs.map V.ref++[V.ref p])))) xs l) (bs++[p]) (q++[[]]):=by
    show b6.app (g5.agy λc m hc⟨q1,ys,q2,q3⟩=>⟨by rw[q1];rfl,ys,?_,q3.up sm⟩) (.cons ⟨by rw[gp,awp],[],?_,.nil⟩ .nil);.rw[a9 (ji npa),cy]
    .erw[a9 (λz=>(gd.mp g4).1 (by erw[<-z,hc])),a9 (fw q2 hp),q2]
   show hw _ _ _ _ h2 (e'.turn w (N:=λc=>M i c||(c==p)) (s':=.gg (q++[[]])) g1 (λc o q hM=>?_) (λc hc=>?_) (λc hc=>hne c (e'.has c hc)) rfl (jx ad (bs++[p]) rfl ?_ ?_ ?_ g5')) hl;.erw[a9 (λz=>by subst z;rw[g2]at hM;cases hM),a9 (fw q hp),q]
   .rw[jb]at hc;obtain z|z:=hc;.show⟨.inr z,hne c (e'.has c (w.fj i c z).1)⟩
    .clear e' g1 g2 g3 g4 g5' h2 hne sm;let:=eq_of_beq z;subst this;show⟨.inl hp,?_⟩;erw[a9 (ji npa),cy,λq=>by cases q]
   .change(M i ad||(ad==p))=ae;rw[g2];rfl
   .rw[cy,fe];rfl
   .show J0.mpr ⟨g4,gd.mpr ⟨qo,ol⟩,λc hc c' hc'=>?_⟩;rw[fq.mp hc'];obtain rfl|hc:=df.mp hc;.show npa
    .let:=g5.all (P:=λc=>H c≠af) (λc m⟨_,ys,q,_⟩=>by erw[q,λz=>by cases z]) c hc;show λz=>this (by erw[z,hp])
  .cases h2
 .let⟨l,ho1,h3⟩:=ay h2;clear h2;show fg (e'.list (apj ho1)) λad xs g1 g4 g5 g6=>?_;k_lt h3
  .ext em;subst em;let⟨d,hd,h4⟩:=ay h3;clear h3;k_lt h4;.ext hz;show PS.w (vg (vh yj QN VB abt pvx (gc (cf X a) fx (dy W)) (kl rfl) (ua hs (by change 1<20;decide)) hln (dy W) rfl) rfl) ⟨_,g1,.inl ⟨rfl,_,AR.of g4⟩,(iE _ _ d hd O' A H _ e'.has e'.vr λv H1 s1 d1=>⟨ad,xs,v,rfl,rfl,s1 _ _ g4,by erw[g5.length,hz],?_⟩)⟩;let⟨O2,e2⟩:=g6 s1 ((g5.up (AH.rs _ s1)).snoc d1);show hw _ _ _ _ h4 e2 hl
   .cases h4
  .k_lt h3
   .ext em;subst em;let⟨j,hd1,h4⟩:=ay h3;clear h3;k_lt h4
    .ext hz;obtain hd|hd:=apk hd1;.show PS.w (vg (vh yj U0 awq al9 pvx (gc (cf X a) fx (dy W)) (kl rfl) (ua hs (by change 1<20;decide)) hln (dy W) rfl) rfl) ⟨_,g1,.inl ⟨rfl,_,AR.of g4⟩,(iE _ _ _ hd O' A H _ e'.has e'.vr λv H1 s1 d1=>?_)⟩;let⟨_,_,rfl,q1,q2⟩:=d1;show⟨ad,_,xs,_,rfl,rfl,s1 _ _ g4,cq _ _ _ _ q1,by erw[g5.length,q2.length,hz],?_⟩;let⟨O2,e2⟩:=g6 s1 ((g5.up (AH.rs _ s1)).append q2);show hw _ _ _ _ h4 e2 hl
     .show PS.w (vg (vh yj U0 awq a34 pvx (gc (cf X a) fx (dy W)) (kl rfl) (ua hs (by change 1<20;decide)) hln (dy W) rfl) rfl) ⟨_,g1,.inl ⟨rfl,_,AR.of g4⟩,(iE _ _ _ hd O' A H _ e'.has e'.vr λv H1 s1 d1=>?_)⟩;let⟨_,_,rfl,q1,q2⟩:=d1;show⟨ad,_,xs,_,rfl,rfl,s1 _ _ g4,AS.same (cq _ _) q1,by erw[g5.length,q2.length,hz],?_⟩;let⟨O2,e2⟩:=g6 s1 ((g5.up (AH.rs _ s1)).append q2);show hw _ _ _ _ h4 e2 hl
    .cases h4
   .cases h3
def a4t{K}(hx:B5 sc x=ae)(hst:notStar a=ae)(hln:(apos.endLine==cpos.line)=ae)(h:SA Γ sc n E K x a=aa out){D}(e:ER Γ X.K F B O H A E)(hl:A.length=Γ.N.length)(hw:∀ξ' W σ' H',K ξ'=aa out->ER Γ X.K F B W H' σ' ξ'->σ'.length=Γ.N.length->D.nx σ' H'):CW X (.Expr (.Call (.Attribute (.Subscript (.Name x px) (.UnaryOp .USub (.Constant (.int 1) u1 u2) u3) u4) "append" apos) [a] [] cpos) sp) D A H:=by
 let iE:=λη e=>(jt Γ n).1 X ae sc G η e;delta SA at h;rw[aj hx]at h;let⟨i,hi,h⟩:=ay h;let⟨ls,hls,h⟩:=ay h;let⟨l,hlast,h⟩:=ay h;let⟨d,hd,h⟩:=ay h;k_lt h
 .ext hz;show au (e.je (km Γ.N (AL a) E)) λW hO' e'=>?_;let hs:∀e∈[a],notStar e=true:=λe he=>by
   clear e' h hd hls;obtain rfl|he:=df.mp he;.show hst
   .cases he
  show PS.w (vg (vh yj QN VB abt (afy afz (p6 G hx hi) (ak2 ak4 abm) (agj rfl)) (gc (cf X a) fx (dy hst)) (kl rfl) (ua hs (by change 1<20;decide)) hln (dy hst) rfl) rfl) (QY λzz=>?_);let⟨M,w⟩:=e'.own;show au (w.at_ i _ (ag1 hls) rfl) λv g1 j=>lg j λad bs zq81_2 g2 g3 g4 g5=>?_;clear j;subst zq81_2;rw[aph hlast]at g5;let⟨bs',b,rfl,k1,k2,xs,k3,k4⟩:=apf g5;rw[fe,b9,VA]at g3;apply zz.f;show⟨_,g1,1,rfl,ad,_,-1,.ref b,rfl,rfl,AR.of g3,afx _ _,.inl ⟨rfl,_,AR.of k3⟩,(iE _ _ d hd W A H _ e'.has e'.vr λv H1 s1 d1=>⟨b,xs,v,rfl,rfl,s1 _ _ k3,by erw[k4.length,hz],?_⟩)⟩;let e1:=e'.up s1;let nab:b≠ad:=λz=>by subst z;show(gd.mp g4).1 (mn _ (fq.mpr rfl))
  let nb:b∉bs':=λhb=>by rw[<-awr]at g4;show(J0.mp g4).2.2 b (dj _ hb) b (fq.mpr rfl) rfl
  let hne:∀c,H1 c≠af->upd H1 b (.lst (xs++[v])) c≠none:=λc hc=>by
   by_cases z:c=b;.subst z;erw[cy,λq=>by cases q]
   .erw[a9 z,hc]
  let sm:AH (rs W H1) (rs (λc=>W c||M i c) (upd H1 b (.lst (xs++[v])))):=λc o q=>by
   let nO:W c=false:=by
    cases z:W c with
    |false=>rfl
    |true=>delta rs at q;rw[aj z]at q;cases q
   let q2:=cq _ _ _ _ q;let nM:M i c=false:=by
    cases z:M i c with
    |false=>rfl
    |true=>rw[(w.fj i c z).1]at nO;cases nO
   delta rs;erw[ao (by change¬(W c||M i c)=ae;erw[nO,nM,gy]),a9 (λz=>by subst z;rw[k2]at nM;cases nM),q2]
  show hw _ _ _ _ h (e1.turn (⟨λi s' h1 h2=>au (w.at_ i s' h1 h2) λv q1 q2=>(ap v q1 (q2.mono (λb o ζ q=>s1 _ _ q) (AH.rs W s1) λζ q=>q)),w.fj,w.ds⟩) (N:=M i) (s':=.gg (ls.dropLast++[l++[d]])) g1 (λc o q hM=>?_) (λc hc=>⟨.inr hc,hne c (e1.has c (w.fj i c hc).1)⟩) (λc hc=>hne c (e1.has c hc)) rfl (jx ad (bs'++[b]) rfl g2 ?_ g4 (b6.app (k1.agy λc m hc⟨q1,ys,q2,q3⟩=>⟨q1,ys,?_,(q3.up (AH.rs W s1)).up sm⟩) (.cons ⟨k2,xs++[v],cy,((k4.up (AH.rs W s1)).snoc d1).up sm⟩ .nil)))) hl;.erw[a9 (λz=>by subst z;rw[k2]at hM;cases hM),q]
  .erw[a9 (ji nab),fe,s1 _ _ g3]
  .erw[a9 (λz=>nb (by erw[<-z,hc])),s1 _ _ q2]
 .cases h
end
end
section
variable{Γ:Ctx}{X:Cx}
def zq(r:ie k A):A.units+2<cLine:=by let:=r.un;lia
def ad6(h:IY r=aa p):r=aa (.tk p):=by delta IY at h;k_lt h;all_goals lia
def ag3(h:G6 r=aa k):r=aa (.tup (k.map D6)):=by
 delta G6 at h;k_lt h;.rw[adw h]
 .trivial
section
variable{K:ba}{cls:Str->Addr}{E H:Hp}{M:Addr->a4}
def ag4(h:b6 (BW K cls E H M) es ts)(k):(B1 es k).isSome=ES ts k:=by
 induction h with
 |nil=>rfl
 |@cons e t es ts r _ ih=>
  unfold B1 ES at ih⊢;rw[MZ];by_cases hk:e.1=k;.rw[J1 (by simpa using hk),gm (r.1.symm.trans hk)];rfl
  .erw[J2 (by walk),gi (λz=>hk (r.1.trans z)),ih]
def a4u(h:b6 (BW K cls E H M) es ts)(hn:∀e,e.1=k->(∃t0,BW K cls E H M e t0)->BW K cls E H M (e.1,e.2.1,v) (k,t))(hb:BW K cls E H M (k,b,v) (k,t)):
 b6 (BW K cls E H M) (put3 es k b v) (ET ts k t):=by
 unfold put3 ET;rw[ag4 h k];split;.ext z;clear z;induction h with
  |nil=>show .nil
  |@cons e t0 es ts r _ ih=>
   show .cons ?_ ih;change BW K cls E H M (if e.1=k then(e.1,e.2.1,v)else e) (if t0.1=k then(t0.1,t)else t0);by_cases hk:e.1=k;.erw[aj hk,aj (r.1.symm.trans hk),r.1.symm.trans hk,hn e hk ⟨t0,r⟩]
   .rw[ao hk,ao (λz=>hk (r.1.trans z))];omega
 .show h.app (.cons hb .nil)
def apm:∀{ts}(es),ts.all G7=ae->CV ts es=[]
 |[],_,_=>rfl
 |(k,.v d)::ts,[],_=>rfl
 |(k,.v d)::ts,e::es,h=>by rw[ux,cg]at h;show apm es h.2
 |(k,.l d)::ts,es,h=>by rwa[ux,cg]at h;cases h.1
def apn(h:ts.all G7=ae):(ET ts k (.v d)).all G7=true:=by
 delta ET;split
 .rw[bg5,mr];intro e C;change G7 (if e.1=k then(e.1,TV.v d)else e)=ae;split;.rfl
  walk
 .rw[List.all_append,h];rfl
end
section
variable{K:ba}{J O:Addr->a4}{B H:Hp}{I:L2.St}{F:ab Sl}
def ER.ad7(e:ER Γ K J B O H I F)(hpw:Γ.pw=aa (P,w0))(ho:F[i]?=aa (.tk ts)):∃M a es,l9 Γ K J B O H I F M/\I[i]?=aa (aa (.ref a))/\M i a=ae/\H a=aa (BY P w0 a es)/\b6 (BW K Γ.cls (rs O H) H (M i)) es ts/\(CV ts es).Nodup/\(es.map (·.1)).Nodup:=by show QY λz=>?_;let⟨M,w⟩:=e.own;show au (w.at_ i _ ho rfl) λv g1 j=>nh j λP' w' a es g2 q g3 g4 W=>xA W λg5 g6=>?_;subst q;rw[hpw]at g2;cases g2;apply z.f;show⟨M,a,es,w,g1,g3,g4,g5,g6⟩
def l9.up(w:l9 Γ K J B O H I F M)(j:AH H L):l9 Γ K J B O L I F M:=⟨λi s' h1 h2=>au (w.at_ i s' h1 h2) λv W q2=>(ap v W (q2.mono (λb o ζ q=>j _ _ q) (AH.rs O j) λζ q=>q)),w.fj,w.ds⟩
def aa3{M}(h:b6 (BW K Γ.cls (rs O H) H M) es ts){L}(j:AH H L):∀e∈es,Dr K Γ.cls L (.ref e.2.1) (.tup (e.1.map D6)):=λe C=>au (h.apg e C) λt _ r=>(r.2.1.up (cq O H)).up j
end
def a4v(G:GX Γ X ae sc)(hfn:∀x,X.fn x=ae){F}{K:ab Sl->ah Out}{W}{x}{px p sp}{i}(hx:C1 sc x=ae/\EQ Γ.fi x=ae)(hi:slot Γ.N x=aa i)(hK:K (F.set i (.tk []))=aa W)
 {J}{B}{O}{I}{H}{D}(e:ER Γ X.K J B O H I F)(hl:I.length=Γ.N.length)(hw:∀ξ' O' j H',K ξ'=aa W->ER Γ X.K J B O' H' j ξ'->j.length=Γ.N.length->D.nx j H'):CW X (.Assign [.Name x px] (.Dict [] [] p) sp) D I H:=by let⟨l1,l2⟩:=pz G hfn hx.1;show PS.w (nk (by erw[G.N,G.nd]) (by erw[G.N,slot_get hi]) l1 a38 (rq rfl) l2) (λq hq=>hw _ _ _ _ hK (e.ab8 (by erw[hl,lj hi]) (r6 hx.2 hi) hq (AH.new hq) (by simp[cy]) rfl (ng X.prog X.w q [] G.pw rfl (gp q) cy (.nil) ol ol)) yA)
def a4w{sc:cz}(G:GX Γ X ae sc){n:ai}{F:ab Sl}{K:ab Sl->ah Out}{out:Out}{x:Str}{px sp0 sp:Pos}{ke ve:Expr}{i:ai}{ts:Tk}{d:D}{W:ab CI}(hx:B5 sc x=ae)(hcmp:IW ve=ag)(hi:slot Γ.N x=aa i)(hp0:IY (AN Γ.N (AL ke++AL ve) F)[i]?=aa ts)(hd:A9 Γ n ae sc (vals (AN Γ.N (AL ke++AL ve) F)) ve=aa d)
 (hkk:G6 (A9 Γ n ae sc (vals (AN Γ.N (AL ke++AL ve) F)) ke)=aa W)(hz:ts.length<aw)(hno:ts.all G7=ae)(h:K ((AN Γ.N (AL ke++AL ve) F).set i (.tk (ET ts W (.v d))))=aa out)
 {J:Addr->a4}{B:Hp}{O:Addr->a4}{I:L2.St}{H:Hp}{D:Ends}(e:ER Γ X.K J B O H I F)(hl:I.length=Γ.N.length)(hw:∀ξ' j σ' H',K ξ'=aa out->ER Γ X.K J B j H' σ' ξ'->σ'.length=Γ.N.length->D.nx σ' H'):CW X (.Assign [.Subscript (.Name x px) ke sp0] ve sp) D I H:=by
 let iE:=λη e=>(jt Γ n).1 X ae sc G η e;show au (e.je (km Γ.N (AL ke++AL ve) F)) λj hO' e'=>?_;show PS.w (a4a (cls:=Γ.cls) (zq G.room) (p6 G hx hi) (cf X ke) (cf X ve) (rq hcmp)) (iE _ _ d hd j I H _ e'.has e'.vr λv L s1 d1=>QY λzz=>fh (e'.ad7 G.pw (ad6 hp0)) λM a es w g1 g2 zq14_1=>ly zq14_1 λg3 g4 g5 g6=>?_);apply zz.f;show⟨_,g1,?_⟩;let e1:=e'.up s1;show iE _ _ _ (ag3 hkk) j I L _ e1.has e1.vr λy H2 s2 d2=>?_;let d2':=d2;cases d2.e with
 |@tup b xs _ q1 q2=>
  let w2:=(w.up s1).up s2;let g4':b6 (BW X.K Γ.cls (rs j H2) H2 (M i)) es ts:=g4.imp λe t r=>r.mono (λb o ζ q=>s2 _ _ (s1 _ _ q)) (λq=>(q.up (AH.rs j s1)).up (AH.rs j s2)) (λq=>(q.up (AH.rs j s1)).up (AH.rs j s2)) λζ q=>q;show vb a b es W rfl rfl ⟨s2 _ _ (s1 _ _ g3),aa3 g4 (s1.trans s2),d2'.up (cq _ _)⟩ (by erw[g4.len,hz]) ?_;let key:∀E,AH (rs j H2) E->b6 (BW X.K Γ.cls E (upd H2 a (BY X.prog X.w a (put3 es W b v))) (M i)) (put3 es W b v) (ET ts W (.v d)):=by
   intro E sr;let dv:=(d1.up (AH.rs j s2)).up sr;let step:b6 (BW X.K Γ.cls E (upd H2 a (BY X.prog X.w a (put3 es W b v))) (M i)) es ts:=by
    show g4'.a37 λe t C ht r=>⟨r.1,r.2.1.up sr,?_⟩;let r3:=r.2.2;let tn:∃z,t.2=.v z:=by
     cases hz:t.2 with
     |v z=>show⟨z,rfl⟩
     |l z=>let:=mr.mp hno t ht;delta G7 at this;rw[hz]at this;show nb this
    let⟨z,hz⟩:=tn;rw[hz]at r3⊢;show Dr.up r3 sr
   show a4u step (λe hk zq11_1=>xE zq11_1 λt0 r0=>⟨hk,r0.2.1,dv⟩) ⟨rfl,d2'.up sr,dv⟩
  let⟨O2,e2⟩:=(e1.up s2).ag2 w2 (i:=i) (a:=a) (s':=.tk (ET ts W (.v d))) (ho:=BY X.prog X.w a (put3 es W b v)) g1 g2 rfl λE sr=>(ng X.prog X.w a (put3 es W b v) G.pw rfl g2 cy (key E sr) (by erw[apm _ (apn hno),ol]) (ady g6));show hw _ _ _ _ h e2 hl
section
variable{K:ba}{cls:Str->Addr}{E H:Hp}{M:Addr->a4}
section
variable(h:b6 (BW K cls E H M) es ts)(C:B1 es k=aa e)
include h C
def a4x:∃t,ts.find? (λt=>decide (t.1=k))=aa t/\BW K cls E H M e t/\e.1=k:=by
 induction h with
 |nil=>trivial
 |@cons e1 t1 es ts r _ ih=>
  delta B1 at C;by_cases hk:e1.1=k;.rw[J1 (by simpa using hk)]at C;injection C with C;subst C;show et t1 (J1 (by simpa using r.1.symm.trans hk)) r hk
  .rw[J2 (by simpa using hk)]at C;show au (ih C) λt h1 h2=>ap t (by rw[J2 (by simpa using λz=>hk (r.1.trans z))];omega) h2
def a4y(ht:ts.find? (λt=>decide (t.1=k))=aa (k0,.l xs)):e.2.2∈CV ts es:=by
 induction h with
 |nil=>trivial
 |@cons e1 t1 es ts r _ ih=>
  delta B1 at C;by_cases hk:e1.1=k;.rw[J1 (by simpa using hk)]at C;injection C with C;subst C;rw[J1 (by simpa using r.1.symm.trans hk)]at ht;injection ht with ht;subst ht;show d7 ..
  .rw[J2 (by walk)]at C;rw[J2 (by simpa using λz=>hk (r.1.trans z))]at ht;let:=ih C ht;let⟨t1a,t1b⟩:=t1;cases t1b with
   |v d=>show this
   |l d=>show dj _ this
end
def DQ(k:ab CI)(xs:ab D)(d:D)(e:ab CI×TV):ab CI×TV:=if e.1=k then(e.1,.l (xs++[d]))else e
def a4z(sr:AH E Hr')(dv:Dr K cls Hr' v d):∀{es}{ts}{e0},b6 (BW K cls E H M) es ts->(es.map (·.1)).Nodup->(CV ts es).Nodup->B1 es k=aa e0->e0.2.2=.ref c->ts.find? (λt=>decide (t.1=k))=aa (k0,.l xs)->H c=aa (.lst ys)->
 b6 (BW K cls Hr' (upd H c (.lst (ys++[v]))) M) es (ts.map (DQ k xs d)):=by
 let other:∀{es:ab k8}{ts:Tk},b6 (BW K cls E H M) es ts->V.ref c∉CV ts es->b6 (BW K cls Hr' (upd H c (.lst (ys++[v]))) M) es ts:=by
  intro es ts h;induction h with
  |nil=>intro _;show .nil
  |@cons e1 t1 es ts r _ ih=>
   intro hn;let⟨t1a,t1b⟩:=t1;cases t1b with
   |v z=>show .cons ⟨r.1,r.2.1.up sr,Dr.up r.2.2 sr⟩ (ih hn)
   |l z=>let hn:V.ref c∉e1.2.2::CV ts es:=hn;rw[df,sk]at hn;show .cons ⟨r.1,r.2.1.up sr,(fg r.2.2 λc' ys' q1 q2 q3 q4=>ic c' ys' q1 q2 ?_ (q4.up sr))⟩ (ih hn.2);erw[a9 (λz=>hn.1 (by rw[q1,z])),q3]
 let same:∀{es:ab k8}{ts:Tk},b6 (BW K cls E H M) es ts->k∉es.map (·.1)->ts.map (DQ k xs d)=ts:=by
  intro es ts h;induction h with
  |nil=>intro _;rfl
  |@cons e1 t1 es ts r _ ih=>intro hn;rw[b9,df,sk]at hn;rw[b9,ih hn.2];delta DQ;rw[ao (λz=>hn.1 (by erw[r.1,z.symm]))]
 intro es ts e0 h;induction h with
 |nil=>show λ_ _ C=>nn C
 |@cons e1 t1 es ts r j ih=>
  intro hk ho C hec ht hH;rw[b9,gd]at hk;delta B1 at C;by_cases W:e1.1=k;.rw[J1 (by simpa using W)]at C;cases C;rw[J1 (by simpa using r.1.symm.trans W)]at ht;injection ht with ht;subst ht;let ho:(e0.2.2::CV ts es).Nodup:=ho;rw[gd,hec]at ho;erw[b9,same j (by erw[<-W,hk.1]),.cons ?_ (other j ho.1)];delta DQ;erw[aj (r.1.symm.trans W),QY λw=>fg r.2.2 λc' ys' q1 q2 q3 q4=>?_];rw[hec]at q1;cases q1;rw[hH]at q3;cases q3;apply w.f;show⟨r.1,r.2.1.up sr,c,ys++[v],hec,q2,cy,(q4.up sr).snoc dv⟩
  .rw[J2 (by simpa using W)]at C;rw[J2 (by simpa using λz=>W (r.1.trans z))]at ht;rw[b9];let hin:=a4y j (C) ht;rw[hec]at hin;let⟨t1a,t1b⟩:=t1;let ha:DQ k xs d (t1a,t1b)=(t1a,t1b):=by delta DQ;rw[ao (λz=>W (r.1.trans z))]
   rw[ha];cases t1b with
   |v z=>show .cons ⟨r.1,r.2.1.up sr,Dr.up r.2.2 sr⟩ (ih hk.2 ho C hec ht hH)
   |l z=>let ho:(e1.2.2::CV ts es).Nodup:=ho;rw[gd]at ho;show .cons ⟨r.1,r.2.1.up sr,(QY λq=>fg r.2.2 λc' ys' q1 q2 q3 q4=>?_)⟩ (ih hk.2 ho.2 C hec ht hH);apply q.f;show ic c' ys' q1 q2 ?_ (q4.up sr);erw[a9 (λz=>ho.1 (by erw[q1,z,hin])),q3]
def a40(k)(xs)(d):∀{es}{ts},b6 (BW K cls E H M) es ts->(es.map (·.1)).Nodup->ts.find? (λt=>decide (t.1=k))=aa (k0,.l xs)->CV (ts.map (DQ k xs d)) es=CV ts es:=by
 let same:∀{es:ab k8}{ts:Tk},b6 (BW K cls E H M) es ts->k∉es.map (·.1)->ts.map (DQ k xs d)=ts:=by
  intro es ts h;induction h with
  |nil=>intro _;rfl
  |@cons e1 t1 es ts r _ ih=>intro hn;rw[b9,df,sk]at hn;rw[b9,ih hn.2];delta DQ;rw[ao (λz=>hn.1 (by erw[r.1,z.symm]))]
 intro es ts h;induction h with
 |nil=>intro _ q;trivial
 |@cons e1 t1 es ts r W ih=>
  intro hk q;rw[b9,gd]at hk;by_cases j:e1.1=k;.rw[J1 (by simpa using r.1.symm.trans j)]at q;injection q with q;subst q;rw[b9,same W (by erw[<-j,hk.1])];delta DQ;rw[aj (r.1.symm.trans j)];rfl
  .rw[J2 (by simpa using λz=>j (r.1.trans z))]at q;let e:=ih hk.2 q;rw[b9];let⟨t1a,t1b⟩:=t1;let ha:DQ k xs d (t1a,t1b)=(t1a,t1b):=by delta DQ;rw[ao (λz=>j (r.1.trans z))]
   rw[ha];cases t1b with
   |v z=>show e
   |l z=>change e1.2.2::CV _ es=e1.2.2::CV ts es;rw[e]
end
section
variable{K:ba}{J O:Addr->a4}{B H L:Hp}{I:L2.St}{F:ab Sl}
def ER.apo(e:ER Γ K J B O H I F)(hpw:Γ.pw=aa (P,w0))(w:l9 Γ K J B O H I F M)(hv:I[i]?=aa (aa (.ref a)))(ha:M i a=ae)(hH:H a=aa (BY P w0 a es))(g4:b6 (BW K Γ.cls (rs O H) H (M i)) es ts)(g5:(CV ts es).Nodup)(g6:(es.map (·.1)).Nodup)
      (C:B1 es k=aa e0)(hec:e0.2.2=.ref c)(ht:ts.find? (λt=>decide (t.1=k))=aa (k0,.l xs))(hc:H c=aa (.lst ys))(hm:M i c=ae)  (dv:Dr K Γ.cls (rs O H) v d):
 ∃O',ER Γ K J B O' (upd H c (.lst (ys++[v]))) I (F.set i (.tk (ts.map (DQ k xs d)))):=by
 let hne:∀b,H b≠af->upd H c (.lst (ys++[v])) b≠none:=λb hb=>by
  by_cases z:b=c;.subst z;erw[cy,λq=>by cases q]
  .erw[a9 z,hb]
 let sm:AH (rs O H) (rs _ (upd H c (.lst (ys++[v])))):=λb o q=>by
  let nO:O b=false:=by simp_all[rs]
  let nM:M i b=false:=by
   cases z:M i b with
   |false=>rfl
   |true=>rw[(w.fj i b z).1]at nO;trivial
  delta rs;erw[ao (by change¬(O b||M i b)=ae;erw[nO,nM,gy]),a9 (λz=>by subst z;rw[hm]at nM;trivial),(cq _ _ _ _ q)]
 show⟨_,e.turn w hv (λb o q hM=>?_) (λb hb=>⟨.inr hb,hne b (e.has b (w.fj i b hb).1)⟩) (λb hb=>hne b (e.has b hb)) rfl (ng P w0 a es hpw rfl ha ?_ (a4z sm (dv.up sm) g4 g6 g5 C hec ht hc) (by erw[a40 k xs d g4 g6 ht,g5]) g6)⟩;.erw[a9 (λz=>by subst z;rw[hm]at hM;trivial),q]
 .erw[a9 (akk hH hc (λz=>by cases z)),hH]
def a41(h:F[i]?=aa s)(h1:s.v=af)(h2:s'.v=af):vals (F.set i s')=vals F:=by
 delta vals;erw[List.map_set,h2,bix λj=>?_];by_cases hj:i=j;.subst hj;rw[QE (by rw[bt];grind),i9,h,j4,h1]
 walk
end
end
section
variable{Γ:Ctx}{X:Cx}
def find_none{ts:Tk}(h:ts.find? (λt=>decide (t.1=k))=af):∀{d},ts.map (DQ k [] d)=ts:=fun{d}=>by show(jw λt j=>?_).trans (aws ts);grind[DQ]
section
variable{K:ba}{cls:Str->Addr}{C H A H':Hp}{M M':Addr->a4}
def BW.a42(q:∀b ys,M b=ae->H b=aa (.lst ys)->H' b=aa (.lst ys))(s2:∀{v d},Dr K cls C v d->Dr K cls A v d)(W:∀{v d},AJ K cls C v d->AJ K cls A v d)(hm:∀b,M b=ae->M' b=ae)(h:BW K cls C H M e t):BW K cls A H' M' e t:=by show d9 h λh1 h2 j=>⟨h1,s2 h2,?_⟩;revert j;cases t.2<;>walk
def a43(h:b6 (BW K cls C H M) es ts)(k)(xs)(e):CV (ts++[(k,.l xs)]) (es++[e])=CV ts es++[e.2.2]:=by
 induction h with
 |nil=>rfl
 |@cons j W es ts r _ q=>
  let⟨a,b⟩:=W;cases b with
  |v d=>show q
  |l d=>change j.2.2::CV (ts++_) (es++_)=j.2.2::CV ts es++_;rw[q];rfl
def a44(h:b6 (BW K cls C H M) es ts):∀v∈CV ts es,∃c ys,v=.ref c/\H c=aa (.lst ys):=by
 induction h with
 |nil=>intro v j;trivial
 |@cons e1 W es ts r _ q=>
  intro v j;let⟨a,b⟩:=W;cases b with
  |v d=>show q v j
  |l d=>
   obtain rfl|j:=df.mp j;.show fg r.2.2 λc ys q1 _ q3 _=>gk c ys q1 q3
   .show q v j
end
def a45(G:GX Γ X ae sc){K}(hx:B5 sc x=ae)(hst1:notStar ke=ae)(hst2:notStar ve=ae)(hln1:(p1.endLine==p3.line)=ae)(hln2:(p4.endLine==p5.line)=ae)(h:SD Γ sc n ξ K x ke ve=aa out)
      {D}(e:ER Γ X.K O0 B O H σ ξ)(hl:σ.length=Γ.N.length)(hw:∀ξ' O' σ' H',K ξ'=aa out->ER Γ X.K O0 B O' H' σ' ξ'->σ'.length=Γ.N.length->D.nx σ' H'):
 CW X (.Expr (.Call (.Attribute (.Call (.Attribute (.Name x px) "setdefault" p1) [ke,.List [] p2] [] p3) "append" p4) [ve] [] p5) sp) D σ H:=by
 let iE:=λη e=>(jt Γ n).1 X ae sc G η e;delta SD at h;rw[aj hx]at h;let⟨i,hi,h⟩:=ay h;let⟨ts,hts,h⟩:=ay h;let⟨W,hkk,h⟩:=ay h;let⟨d,hd,h⟩:=ay h;k_lt h
 .ext hz;let⟨ts',hap,hK⟩:=ay h;show au (e.je (km Γ.N (AL ke++AL ve) ξ)) λO' hO' e'=>?_;let hs:∀e∈[ve],notStar e=true:=λe he=>by erw[fq.mp he,hst2]
  show PS.w (vg (vh yj QN VB abt (a4b (cls:=Γ.cls) (p2:=p2) (zq G.room) (p6 G hx hi) (cf X ke) (kl rfl) hln1 hst1) (gc (cf X ve) fx (dy hst2)) (kl rfl) (ua hs (by change 1<20;decide)) hln2 (dy hst2) rfl) rfl) ?_;let ho:=ad6 hts;show QY λzz=>fh (e'.ad7 G.pw ho) λM a es w g1 g2 zq12_1=>ly zq12_1 λg3 g4 g5 g6=>?_;clear zq12_1;apply zz.f;show⟨_,g1,a,es,rfl,g3,(iE _ _ _ (ag3 hkk) O' σ H _ e'.has e'.vr λy H1 s1 d1=>⟨gv _,λl hl0=>?_⟩)⟩;let d1':=d1;cases d1.e with
  |@tup b _ _ q1 q2=>
   let sl:AH H1 (upd H1 l (.lst [])):=AH.new hl0;let s2:=s1.trans sl;let e2:=e'.up s2;let w2:=w.up s2;let g4':b6 (BW X.K Γ.cls (rs O' (upd H1 l (.lst []))) (upd H1 l (.lst [])) (M i)) es ts:=g4.imp λe t r=>r.mono (λb o ζ q=>s2 _ _ q) (λq=>q.up (AH.rs O' s2)) (λq=>q.up (AH.rs O' s2)) λζ q=>q;show aau b l W rfl ⟨s2 _ _ g3,aa3 g4 s2,(d1'.up (cq _ _)).up sl⟩ (by erw[g4.len,hz]) (λe0 he0=>?_) λhno=>?_;.
    show QY λz0=>bz (a4x g4' he0) λt0 ht0 r0 hk0=>?_;delta K9 at hap;rw[ht0]at hap;let⟨k0,tv⟩:=t0;cases tv with
    |v z=>show nn hap
    |l xs=>
     simp only at hap;k_lt hap;.ext hxs;cases hap;show fg r0.2.2 λc ys c1 c2 c3 c4=>?_;apply z0.f;erw[c1,⟨.inl ⟨rfl,_,AR.of c3⟩,(iE _ _ d hd O' σ _ _ e2.has e2.vr λv H3 s3 d3=>⟨c,ys,v,rfl,rfl,s3 _ _ c3,by erw[c4.length,hxs],?_⟩)⟩];let g4'':b6 (BW X.K Γ.cls (rs O' H3) H3 (M i)) es ts:=g4'.imp λe t r=>r.mono (λb o ζ q=>s3 _ _ q) (λq=>q.up (AH.rs O' s3)) (λq=>q.up (AH.rs O' s3)) λζ q=>q;let⟨O4,e4⟩:=(e2.up s3).apo G.pw (w2.up s3) g1 g2 (s3 _ _ (s2 _ _ g3)) g4'' g5 g6 he0 c1 ht0 (s3 _ _ c3) c2 d3;show hw _ _ _ _ hK e4 hl
     .show nn hap
   .
    let hfn:ts.find? (λt=>decide (t.1=W))=none:=by let:=ag4 g4' W;rw[hno]at this;show ajp.mpr λt ht=>?_;let z:=QH.mp this.symm t ht;show z
    delta K9 at hap;rw[hfn]at hap;cases hap;let nal:a≠l:=fw (s1 _ _ g3) hl0;let hne:∀c,upd H1 l (.lst []) c≠af->upd (upd H1 l (.lst [])) a (BY X.prog X.w a (es++[(W,b,.ref l)])) c≠none:=λc hc=>by
     by_cases z:c=a;.subst z;erw[cy,λq=>by cases q]
     .erw[a9 z,hc]
    let sm1:AH (rs O' H1) (rs (λc=>O' c||(M i c||(c==l))) (upd (upd H1 l (.lst [])) a (BY X.prog X.w a (es++[(W,b,.ref l)])))):=λc o q=>by
     let nO:O' c=false:=by
      cases z:O' c with
      |false=>rfl
      |true=>delta rs at q;rw[aj z]at q;show nn q
     let q2:=cq _ _ _ _ q;let nM:M i c=false:=by
      cases z:M i c with
      |false=>rfl
      |true=>rw[(w.fj i c z).1]at nO;cases nO
     delta rs;rw[ao,a9 (λz=>by subst z;rw[g2]at nM;cases nM),a9 (fw q2 hl0)];.show q2
     .change¬(O' c||(M i c||(c==l)))=ae;erw[nO,nM,i8.mpr (fw q2 hl0),gy]
    let e1:=e'.up s1;let w1:=w.up s1;let g4a:b6 (BW X.K Γ.cls (rs (λc=>O' c||(M i c||(c==l))) (upd (upd H1 l (.lst [])) a (BY X.prog X.w a (es++[(W,b,.ref l)])))) (upd (upd H1 l (.lst [])) a (BY X.prog X.w a (es++[(W,b,.ref l)]))) (λc=>M i c||(c==l))) (es++[(W,b,.ref l)]) (ts++[(W,.l [])]):=by
     show b6.app (g4.imp λe t r=>r.a42 (λc ys hc q=>?_) (λq=>(q.up (AH.rs O' s1)).up sm1) (λq=>(q.up (AH.rs O' s1)).up sm1) λc hc=>by rw[hc];rfl) (.cons ⟨rfl,d1'.up sm1,l,[],rfl,yS,?_,.nil⟩ .nil);.rw[a9 (ji nal),cy]
     .erw[a9 (akk q g3 (λz=>by cases z)),a9 (fw (s1 _ _ q) hl0),s1 _ _ q]
    let hown:(CV (ts++[(W,.l [])]) (es++[(W,b,.ref l)])).Nodup:=by erw[a43 g4,J0.mpr ⟨g5,gd.mpr ⟨qo,ol⟩,λv hv v' hv' z=>?_⟩];let⟨c,ys,rfl,hc⟩:=a44 g4 v hv;rw[fq.mp hv']at z;cases z;rw[s1 _ _ hc]at hl0;cases hl0
    let hkeys:((es++[(W,b,V.ref l)]).map (·.1)).Nodup:=by let:=ady (k:=W) (b:=b) (v:=.ref l) g6;delta put3 at this;rw[hno]at this;show this
    let⟨e3,w3⟩:=e1.ao6 w1 (N:=λc=>M i c||(c==l)) (s':=.tk (ts++[(W,.l [])])) (H':=upd (upd H1 l (.lst [])) a (BY X.prog X.w a (es++[(W,b,.ref l)]))) g1 (λc o q hM=>by erw[a9 (λz=>by subst z;rw[g2]at hM;cases hM),a9 (fw q hl0),q]) (λc hc=>by
     rw[jb]at hc;obtain z|z:=hc;.show⟨.inr z,hne c λy=>e1.has c (w.fj i c z).1 (by
       by_cases hcl:c=l;.erw[hcl,hl0]
       .rw[a9 hcl]at y;show y)⟩
     .let:=eq_of_beq z;subst this;show⟨.inl hl0,hne c (by erw[cy,λq=>by cases q])⟩) (λc hc=>hne c λy=>e1.has c hc (by
       by_cases hcl:c=l;.erw[hcl,hl0]
       .rw[a9 hcl]at y;show y)) rfl (ng X.prog X.w a _ G.pw rfl (by change(M i a||(a==l))=ae;rw[g2];rfl) cy g4a hown hkeys);let hLl:upd (upd H1 l (.lst [])) a (BY X.prog X.w a (es++[(W,b,.ref l)])) l=aa (.lst []):=by rw[a9 (ji nal),cy]
    show⟨.inl ⟨rfl,_,AR.of hLl⟩,(iE _ _ d hd _ σ _ _ e3.has (by let:=e3.vr;rw[a41 ho rfl rfl]at this;show this) λv H4 s4 d4=>⟨l,[],v,rfl,rfl,s4 _ _ hLl,by rw[JP];decide,?_⟩)⟩;let e4:=e3.up s4;let w4:=w3.up s4;let hMi:∀c,(λj b=>if j=i then(M i b||(b==l))else M j b) i c=(M i c||(c==l)):=λc=>yS;let g4b:b6 (BW X.K Γ.cls (rs (λc=>O' c||(M i c||(c==l))) H4) H4 ((λj b=>if j=i then(M i b||(b==l))else M j b) i)) (es++[(W,b,.ref l)]) (ts++[(W,.l [])]):=g4a.imp λe t r=>r.mono (λb o ζ q=>s4 _ _ q) (λq=>q.up (AH.rs _ s4)) (λq=>q.up (AH.rs _ s4)) λc q=>by erw[hMi,q]
    let hat:B1 (es++[(W,b,V.ref l)]) W=aa (W,b,.ref l):=by delta B1 at hno⊢;rw[awt,hno];simp
    let hfa:(ts++[(W,TV.l [])]).find? (λt=>decide (t.1=W))=aa (W,.l []):=by rw[awt,hfn];simp
    let⟨O5,e5⟩:=e4.apo G.pw w4 g1 (by change(if i=i then(M i a||(a==l))else M i a)=ae;rw[aj rfl,g2];rfl) (s4 _ _ cy) g4b hown hkeys hat rfl hfa (s4 _ _ hLl) (by change(if i=i then(M i l||(l==l))else M i l)=ae;rw[aj rfl,gp,awp]) d4;show hw _ _ _ _ ?_ e5 hl;rw[List.set_set];let:(ts++[(W,TV.l [])]).map (DQ W [] d)=ts++[(W,.l [d])]:=by rw[fe,find_none hfn];change ts++[DQ W [] d (W,.l [])]=_;delta DQ;rw[aj rfl];rfl
    erw[this,hK]
 .show nn h
end
section
variable{Γ:Ctx}{X:Cx}
def apq(h:CG r=aa ξ):r=aa (.next ξ):=by delta CG at h;k_lt h;all_goals lia
def a46(h:XH sc N ξ e=aa (c,y,ts)):∃x px j q i,e=.BoolOp .And [c,.Compare y [.NotIn] [.Name x px] j] q/\B5 sc x=ae/\FH c=ae/\slot N x=aa i/\ξ[i]?=aa (.tk ts):=by
 obtain⟨⟨_,rfl⟩,-,h⟩:=ay h;obtain⟨⟨_,W⟩,-,h⟩:=ay h;obtain⟨⟨_,e2⟩,-,h⟩:=ay h;dsimp at h;k_lt h<;>w_top h
 let⟨i,hi,h⟩:=ay h;let⟨es,he,h⟩:=bo h;grind[ad6]
def a47(G:GX Γ X ae sc){n}{ξ}{e0 c y}{ts}(h:XH sc Γ.N ξ e0=aa (c,y,ts)){b}(hb:A0 (A9 Γ n ae sc (vals (E2 ξ)) c) (LB (A9 Γ n ae sc (vals (E2 ξ)) y) ts)=aa (.bl b))
 {O0}{B}{O}{σ}{H}(e:ER Γ X.K O0 B O H σ ξ){Q}(q:∀H',AH H H'->Q b H'):wT X e0 σ H Q:=by
 show QY λz=>iy (a46 h) λx px j=>fh j λcp bp i W hx ht zq3_3=>xA zq3_3 λhi ho=>?_;subst W;show au (e.je (ab6 ξ)) λO' hO' e'=>?_;show fh (e.ad7 G.pw ho) λM a es w g1 g2 zq1_1=>ly zq1_1 λg3 g4 g5 g6=>?_;let key:∀Q,(∀k,A0 (A9 Γ n ae sc (vals (E2 ξ)) c) (LB (A9 Γ n ae sc (vals (E2 ξ)) y) ts)=aa (.bl k)->∀H',AH H H'->Q k H')->wW X (.BoolOp .And [c,.Compare y [.NotIn] [.Name x px] cp] bp) σ H Q:=by
  show λQ q=>PW.w (akt (nq X c) (agh X _)) ?_;cases hc:A9 Γ n ae sc _ c with
  |none=>rw[hc]at hb;show nn hb
  |some dc=>
   cases dc with
   |bl kc=>
    show(λη e=>(jt Γ n).2 X ae sc G η e) _ _ ht kc hc O' σ H _ e'.has e'.vr λH1 s1=>?_;rw[hc]at hb q;cases kc with
    |false=>show q ag rfl H1 s1
    |true=>
     let⟨k,hk,hkb⟩:=bo hb;show PW.w (aks (ak7 (a39 (cls:=Γ.cls) (zq G.room)) (cf X y) (p6 G hx hi) rfl)) ?_;let e1:=e'.up s1;show(λη e=>(jt Γ n).1 X ae sc G η e) _ _ _ (ag3 hk) O' σ H1 _ e1.has e1.vr λv H2 s2 d2=>⟨_,g1,?_⟩;cases d2.e with
     |@tup b0 _ _ q1 q2=>show⟨a,b0,es,k,rfl,rfl,⟨s2 _ _ (s1 _ _ g3),aa3 g4 (s1.trans s2),d2.up (cq _ _)⟩,_,rfl,?_⟩;erw[ag4 g4 k,q _ ?_ H2 (s1.trans s2)];lia
   |_=>rw[hc]at hb;show nn hb
 apply z.f;show λpins s I=>key Q (λk hk=>yA) _ pins s I
def apr:∀{ts}{l},IC ts=aa l->l.length=ts.length/\∀(i:ai)d,l[i]?=aa d->∃k xs,ts[i]?=aa (k,.l xs)/\d=.lst xs
 |[],l,h=>by cases h;show⟨rfl,λi d h=>yT⟩
 |(k,.l xs)::r,l,h=>by
  let⟨m,hm,rfl⟩:=bo h;let⟨h1,h2⟩:=apr hm;show⟨yA,λi d hi=>?_⟩;cases i with
  |zero=>grind
  |succ i=>show h2 i d hi
 |(k,.v z)::r,l,h=>yT
def b6.aps{R}:∀{as}{bs:ab j}{i:ai}{a:q},b6 R as bs->as[i]?=aa a->∃b,bs[i]?=aa b/\R a b
 |_,_,_,_,.nil,h=>yT
 |_,_,0,_,.cons r _,h=>yA
 |_,_,i+1,_,.cons _ t,h=>t.aps h
def a48(h:IZ sc N ξ e=aa p):∃x px apos cpos ts,e=.Call (.Attribute (.Name x px) "values" apos) [] [] cpos/\B5 sc x=ae/\(apos.endLine==cpos.line)=ae/\slot N x=aa p.1/\ξ[p.1]?=aa (.tk ts)/\IC ts=aa p.2:=by
 obtain⟨⟨_,rfl⟩,-,h⟩:=ay h;dsimp at h;k_lt h<;>w_top h
 ext hc;rw[cg,cg]at hc;let⟨i,hi,h⟩:=ay h;let⟨es,he,h⟩:=ay h;let⟨l,hl,h⟩:=bo h;cases h;show⟨_,_,_,_,es,by rw[<-ff hc.2],hc.1.1,hc.1.2,hi,ad6 he,hl⟩
def a49(G:GX Γ X ae sc)(hfn:∀x,X.fn x=ae)(hp:MK (az X.prog X.w) X.A X.env X.xe)(hv:IZ sc Γ.N ξ iter=aa p)(hnm:GJ Γ.fi tg=ae)
 (hf:∀d ξ1 o,f d ξ1=aa o->∃ξ2,IX Γ.N sc tg d ξ1=aa ξ2/\∃r,r=aa o/\SI Γ X ξ2 body r)(ho:AU f p.2 (ξ.set p.1 .no)=aa (.next ξe))
      {D}(e:ER Γ X.K O0 B O H σ ξ)(hl:σ.length=Γ.N.length)(hw:∀O' σ' H',ER Γ X.K O0 B O' H' σ' ξe->σ'.length=Γ.N.length->D.nx σ' H'):CW X (.For tg iter body [] pos) D σ H:=by
 show QY λzz=>iy (a48 hv) λx px W=>fh W λapos cpos ts zq15_2 hx hln zq15_3=>d9 zq15_3 λhi hts hvals=>?_;clear W zq15_3;subst zq15_2;show fh (e.ad7 G.pw hts) λM a es w g1 g2 zq14_1=>ly zq14_1 λg3 g4 g5 g6=>?_;clear zq14_1;let hfz:∀j:ai,Fz ξ[j]? _[j]?:=λj=>by
  by_cases hj:p.1=j;.subst hj;show .inr ⟨.tk ts,hts,rfl,QE (x9.mp hts).1⟩
  .show .inl (ir hj)
 show lz (e.ao3 w hfz) λO' hO' e' sm un=>?_;let unM:=λb hb=>un p.1 (.tk ts) b hts rfl (QE (x9.mp hts).1) hb;apply zz.f;show PS.w (a0y (afo hp G.calm (a4e (p6 G hx hi) (kl rfl) hln) (agv X tg) (ma X body) (λζ=>rfl))) (dq a _ g3 trivial λod=>?_);let e1:ER Γ X.K O0 (λb=>if b=a then aa (.AN od (BY X.prog X.w a es))else B b) O' _ σ _:=e'.ao4 g3 rfl rfl (unM a g2) (λb hb=>ao hb) (.inr (aj rfl));let sx:IM (rs O' H) (rs O' (upd H a (.AN od (BY X.prog X.w a es)))):=λb q h1 h2=>by
  delta rs at h1⊢;by_cases z:O' b=ae;.rw[aj z]at h1;show nn h1
  .rw[ao z]at h1⊢;erw[a9 (λy=>by subst y;rw[g3]at h1;cases h1;cases h2),h1]
 show xA (apr hvals) λhlen hget=>?_;let data:∀(j:ai)(en:k8)d,es[j]?=aa en->p.2[j]?=aa d->Dr X.K Γ.cls _ en.2.2 d:=λj en d h1 h2=>by let⟨k,xs,h3,rfl⟩:=hget j d h2;show au (g4.aps h1) λt h4 r=>?_;rw[h3]at h4;cases h4;show fg r.2.2 λc ys q1 q2 q3 q4=>?_;erw[q1,Dr.li sx _ _ (.lst (xs:=ys) ?_ (q4.up sm))];delta rs;erw[ao (by erw[unM c q2,gy]),q3]
 let hha:rs O' (upd H a (.AN od (BY X.prog X.w a es))) a=aa (.AN od (BY X.prog X.w a es)):=by delta rs;rw[ao (by erw[unM a g2,gy]),cy]
 show agx G hfn hnm hf ho e1 hl (λO2 σ2 H2 e2 hl2=>?_) λR q=>?_
 .let ha2:=e2.base _ _ (aj rfl);let oa2:O2 a=false:=by
   cases z:O2 a with
   |false=>rfl
   |true=>
    obtain y|y:=e2.ex a z;.let:=(w.fj p.1 a g2).2.1;rw[y]at this;cases this
    .rw[aj rfl]at y;cases y
  show⟨ha2,hw O2 σ2 _ (e2.ao4 ha2 rfl rfl oa2 (λb hb=>(ao hb).symm) (.inl ((w.fj p.1 a g2).2.2))) hl2⟩
 .show⟨_,g1,a,od,es,rfl,cy,q _ _ (AH.refl _) ⟨λj H2 s2 hj=>⟨s2 _ _ hha,by erw[g4.len,<-hlen,hj]⟩,λj H2 y H3 d s2 hy hd=>?_,λH2 s2=>⟨s2 _ _ hha,by erw[g4.len,<-hlen,b8 _]⟩⟩⟩;let⟨rfl,en,he,rfl⟩:=hy;show⟨AH.refl _,λO3 hO3 hb=>(data j en d he hd).up (ud s2 hb)⟩
end
section
variable{Γ:Ctx}{X:Cx}
set_option tactic.hygienic true in
def a5a(h:AAX e=ae):∃p1 p2,e=.List [.List [] p1] p2:=by
 cases e<;>try show nb h
 next l _=>
 obtain _|⟨a,_|_⟩:=l<;>try show nb h
 let⟨_,rfl⟩:=ag0 h;lia
set_option tactic.hygienic true in
def a5b(h:AA3 e=ae):∃x j p,e=.Constant (.str x) j p:=by
 cases e<;>try show nb h
 next c _ _=>
 cases c<;>try show nb h
 lia
set_option tactic.hygienic true in
section
variable(G:GX Γ X ae sc)(F:sc.kind=.function)(E:∀x,X.fn x=ae)(I:MK (az X.prog X.w) X.A X.env X.xe)
include G F E I
def ag5(n)(ih:∀(ξ)(ss),SJ Γ X ss (BP Γ sc n ξ ss) ξ)(ξ)(st)(K)(out)(h:stK Γ sc n (BP Γ sc n) ξ st K=aa out)
 (O0)(B)(O)(σ)(H)(D)(e:ER Γ X.K O0 B O H σ ξ)(hl:σ.length=Γ.N.length)
 (hw:∀ξ' O' σ' H',K ξ'=aa out->ER Γ X.K O0 B O' H' σ' ξ'->σ'.length=Γ.N.length->D.nx σ' H')(hr:∀d,out=.ret d->∀v H',AH B H'->Dr X.K Γ.cls (rs O0 H') v d->D.rt v H'):CW X st D σ H:=by
 let⟨sE,sT⟩:=jt Γ n;let iE:=λη e=>sE X ae sc G η e;let iT:=λη e=>sT X ae sc G η e;cases st with
 |Return v p=>
  clear hw;cases v with
  |some=>let⟨d,hd,rfl⟩:=bo h;show au (e.je (ab6 ξ)) λO' hO' e'=>PS.w (abo (cf X _)) (iE _ _ d hd O' σ H _ e'.has e'.vr λv H1 s1 d1=>hr d rfl v H1 (e.base.trans s1) (d1.up (ab7 e'.sub)))
  |none=>cases h;show PS.w akw (hr .bj rfl .bj H e.base .bj)
 |Pass=>show PS.w ayd (hw ξ O σ H h e hl)
 |Expr e0 sp=>
  change SE _ _ _ _ _ _=_ at h;delta SE at h;k_lt h;.ext hd;let⟨x,j,p,rfl⟩:=a5b hd;show PS.w aye (hw ξ O σ H h e hl)
  .ext z;clear z;revert h;obtain _|⟨⟨o,m,p1,a,p2⟩,rfl⟩:=vM1 e0<;>intro h;.show nn h
   dsimp only at h⊢;k_lt h<;>w_top h
   ext hc;rw[cg]at hc;revert h;obtain _|⟨q,rfl⟩:=FG o<;>intro h
   .dsimp only at h;k_lt h<;>w_top h
    ext em;subst em;revert h;obtain _|⟨q,rfl⟩:=AA2 o<;>intro h
    .revert h;obtain _|⟨⟨o,m,p3,b,c,p4⟩,rfl⟩:=vM2 o<;>intro h;.show nn h
     dsimp only at h⊢;k_lt h<;>w_top h
     ext hc2;rw[cg,cg,cg]at hc2;let⟨⟨⟨c1,c2⟩,c3⟩,c4⟩:=hc2;cases ff c1;let⟨pn,rfl⟩:=ag0 c2;revert h;obtain _|⟨q,rfl⟩:=FG o<;>intro h;.show nn h
     by_cases hx:B5 sc q.1=ae;.show a45 G hx c3 hc.1 c4 hc.2 h e hl hw
     .show nn ((ao hx).symm.trans h)
    .by_cases hx:B5 sc q.1=ae;.show a4t G F E hx hc.1 hc.2 h e hl hw
     .show nn ((ao hx).symm.trans h)
   .by_cases hx:B5 sc q.1=ae;.show a4s G F E hx hc.1 hc.2 h e hl hw
    .show nn ((ao hx).symm.trans h)
 |If c a b p=>
  change stI _ _ _ _ _ _ _ _ _=_ at h;let go:∀{bb:a4},(∀{Q:a4->Hp->Prop},(∀H',AH H H'->Q bb H')->wT X c σ H Q)->AI (aa (.bl bb)) (BP Γ sc n ξ a K) (BP Γ sc n ξ b K)=aa out->CW X (.If c a b p) D σ H:=fun{bb}ht h=>by
   show PS.w (afj (nq X c) (ma X a) (ma X b)) (ht λH1 s1=>?_);cases bb with
   |true=>erw[aj rfl,ih ξ a K out h O0 B O σ H1 D (e.up s1) hl hw hr]
   |false=>erw[ao gy,ih ξ b K out h O0 B O σ H1 D (e.up s1) hl hw hr]
  let bl:∀{r:ah DL.D}{A C:ah Out},AI r A C=aa out->∃bb,r=aa (.bl bb):=fun{r A C}h=>by
   delta AI at h;k_lt h;.show⟨_,rfl⟩
   .show⟨_,rfl⟩
   .show nn h
  delta stI at h;k_lt h;.ext q hq;let⟨bb,hb⟩:=bl h;rw[hb]at h;show go (fun{Q}k=>a47 (n:=n) G (c:=q.1) (y:=q.2.1) (ts:=q.2.2) hq hb e k) h
  .k_lt h;.ext ht;let⟨bb,hb⟩:=bl h;rw[hb]at h;show au (e.je (ab6 ξ)) λO' hO' e'=>go (fun{Q}k=>iT _ _ ht _ hb O' σ H _ e'.has e'.vr k) h
   .show nn h
 |Assign ts e0 sp=>
  obtain _|⟨t,_|_⟩:=ts<;>w_top h
  revert h;change(match FG t with|some ⟨q,_⟩=>_|none=>_)=_->_;obtain _|⟨⟨x,px⟩,rfl⟩:=FG t<;>intro h
  .let⟨⟨_,rfl⟩,_,h⟩:=ay h;let⟨⟨_,r⟩,_,h⟩:=ay h;dsimp only at h r;rw[r];delta XQ at h;k_lt h<;>w_top h
   ext hx;rw[cg,ajo]at hx;replace h:=ay h;let⟨i,hi,h⟩:=h;k_lt h
   .ext ts hts;replace h:=ay h;let⟨d,hd,h⟩:=h;replace h:=ay h;let⟨kk,hkk,h⟩:=h;k_lt h<;>w_top h
    ext hz;show a4w G hx.1 hx.2 hi hts hd hkk hz.1 hz.2 h e hl hw
   .replace h:=ay h;let⟨p,hp0,h⟩:=h;replace h:=ay h;let⟨d,hd,h⟩:=h;replace h:=ay h;let⟨kk,hkk,h⟩:=h;let⟨dk,hdk,hkk⟩:=ay hkk;k_lt h<;>w_top h
    ext hz;let hx1:=hx.1;delta B5 at hx1;rw[cg]at hx1;show a4q G F E ⟨hx1,hx.2⟩ hi hp0 hd hdk hkk hz h e hl hw
  .change R8 _ _ _ _ _ _ _=_ at h;delta R8 at h;k_lt h<;>w_top h
   ext hx;rw[cg]at hx;replace h:=ay h;let⟨i,hi,h⟩:=h;k_lt h;.ext hv;let⟨p1,p2,rfl⟩:=a5a hv;show a4j G F E hx hi h e hl hw (n:=n)
   ext z;clear z;revert h;delta XO;obtain _|⟨q,rfl⟩:=AAY e0<;>intro h<;>dsimp only at h;rotate_left;.let⟨l,hd,hK⟩:=ay h;show a4k G F E hx hi hd hK e hl hw
   revert h;delta XN;obtain _|⟨q,rfl⟩:=AAZ e0<;>intro h<;>dsimp only at h;rotate_left;.let⟨l,hd,hK⟩:=ay h;show a4l G F E hx.1 hx.2 hi hd hK e hl hw
   revert h;delta XM;obtain _|⟨⟨ks,vs,p⟩,rfl⟩:=AA1 e0<;>intro h<;>dsimp only at h⊢;rotate_left
   .k_lt h<;>w_top h
    .show a4v G E hx hi h e hl hw
    .let⟨kk,hkk,h⟩:=ay h;let⟨dk,hdk,hkk⟩:=ay hkk;let⟨d,hd,hK⟩:=ay h;show a4n G F E hx hi hdk hkk hd hK e hl hw
   revert h;delta XJ;obtain _|⟨q,rfl,hln⟩:=AAW e0<;>intro h<;>dsimp only at h;rotate_left
   .k_lt h<;>w_top h
    ext hc;rw[cg]at hc;let⟨j,hj,h⟩:=ay h;let⟨ls,hls,h⟩:=ay h;let⟨l,hlast,hK⟩:=ay h;show a4m G F E (n:=n) hx.1 hx.2 hc.1 hln (ff hc.2) hj hi hls hlast hK e hl hw
   delta XI at h;k_lt h<;>w_top h
   ext hcmp;k_lt h;.ext a z ha;let⟨p,hd,hK⟩:=ay h;show b7 z λp0 pos0 zq4_1 hg hst=>?_;subst zq4_1;show a4o G F E hx hi hg hst hd hK e hl hw
   .let⟨d,hd,hK⟩:=ay h;show a4p G F E hx (eq_false_of_ne_true hcmp) hi hd hK e hl hw
 |AugAssign t op e0 sp=>
  cases op<;>w_top h
  let⟨⟨_,rfl⟩,_,h⟩:=ay h;let⟨⟨⟨j,_⟩,q⟩,_,h⟩:=ay h;let⟨⟨_,r⟩,_,h⟩:=ay h;dsimp only at h q r;rw[q,r];k_lt h<;>w_top h
  ext hx;rw[cg]at hx;show a4r G F E hx.1 (ff hx.2) h e hl hw
 |For tg iter body ee p=>
  cases ee<;>w_top h
  change SG _ _ _ _ _ _ _ _ _=_ at h;delta SG at h;k_lt h
  .ext q hq;k_lt h;.ext hnm;let⟨ξe,h1,h2⟩:=ay h;show a49 (pos:=p) G E I hq hnm (λd ξ1 o ho=>?_) (apq h1) e hl λO' σ' H' e' hl'=>hw _ _ _ _ h2 e' hl';let⟨ξ2,g1,g2⟩:=ay ho;show⟨ξ2,g1,_,g2,(ih ξ2 body).s⟩
   .show nn h
  .delta LA at h;k_lt h
   .ext hset0;rw[cg]at hset0;replace h:=ay h;let⟨items,hit,h⟩:=h;show au (e.je (km Γ.N (AL iter) ξ)) λO' hO' e'=>?_;let hI:=aom G (tg:=tg) (f:=A9 Γ n ae sc (vals (AN Γ.N (AL iter) ξ))) (iE _) iter;delta BO at h;k_lt h;.ext ξ' hfo;show apa (pos:=p) G E I hset0.1 hset0.2 hI hit (λO σ H O0 B e=>e.vr) (λd ξ1 o ho=>?_) _ hfo O0 B O' σ H D e' hl λO2 σ2 H2 e2 hl2=>hw _ _ _ _ h e2 hl2;let⟨ξ2,h1,h2⟩:=ay ho;show⟨ξ2,h1,_,h2,(ih ξ2 body).s⟩
    .ext d0 hfo;cases h;show apa (pos:=p) G E I hset0.1 hset0.2 hI hit (λO σ H O0 B e=>e.vr) (λd ξ1 o ho=>?_) _ hfo O0 B O' σ H D e' hl λv H2 s2 dv=>hr _ rfl v H2 s2 dv;let⟨ξ2,h1,h2⟩:=ay ho;show⟨ξ2,h1,_,h2,(ih ξ2 body).s⟩
    .show nn h
   .show nn h
 |_=>show nn h
def ab9:∀(n)(ξ)(q),SJ Γ X q (BP Γ sc n ξ q) ξ:=by
 intro n;induction n with
 |zero=>intro ξ q K j h;trivial
 |succ n ih=>
  intro ξ q;cases q with
  |nil=>show λK j h O0 B O σ H D e hl hw hr=>B9.w afi (hw ξ O σ H h e hl)
  |cons st rest=>show λK0 j h0 O0 B O σ H D0 e hl hw0 W=>B9.w (j9 (agu X st) (ma X rest)) (ag5 G F E I n ih ξ st _ j h0 O0 B O σ H {D0 with nx:=wS X rest D0} e hl (λξ' O' σ' H' F e' hl'=>ih ξ' rest K0 j F O0 B O' σ' H' D0 e' hl' hw0 W) W)
end
end
section
variable{P:de}{w:c9}{K:ba}{C:Str->ah a6}{B:Heap}
structure TX(Γ:Ctx)(P:de)(w:c9)(K:ba)(C:Str->ah a6)(B:Heap):Prop where
 DZ:∀c f,(c,f)∈Γ.fields->fy K (Γ.cls c)/\BG K (Γ.cls c) f
 eg:∀x g,Γ.eg x=aa g->AW P w K C B Γ.cls x Γ.k g
 gq:∀x d,Γ.gq x=aa d->∃v u,C x=aa u/\RelV v u/\∀H,Dr K Γ.cls H v d
 gu:∀x∈GI,C x=af
 pw:Γ.pw=aa (P,w)
def G8(N:ab Str)(ds:ab D):ab Sl:=ds.map Sl.val++ZC (N.length-ds.length) .no
def a5c{st}(F:pj K x qual st f fd)(S:iz N ps (AO st))(T:TX Γ P w K C B)(hmb:Γ.fi=[])(hN:Γ.N=N)
 (W:∀ds d,g ds=aa d->ds.length=ps.length)(n)(h:∀ds d,g ds=aa d->BP Γ (AO st) n (G8 N ds) (BC st) (λq=>af)=aa (.ret d)):g8 P w K C B ig (Γ.k+1) f fd ps (XB K Γ.cls g):=by
 show F.ok S (λvs H Q E hs=>?_) (λcdv A outer s H vs Q E hr hs=>?_);.let⟨O,ds,d,hO,hd,hg,a⟩:=hs;erw[hd.length,W ds d hg]
 .let⟨O,ds,d,hO,hd,hg,a⟩:=hs;let hpl:ps.length<=N.length:=by let:=eh wa S.pre;rw[UU]at this;lia
  let G:GX Γ (EM ig P w K C B N qual (AO st) f cdv A outer s H E).nj ae (AO st):=by show⟨hN.symm,hN▸S.nd,rfl,hr,?_,λx hx=>zx hx,λx hx=>vo hx,λq=>rfl,T.DZ,T.eg,T.gq,T.gu,T.pw⟩;.let:=hr.un;change(A.deeper _).units+1+64<jj;lia
  show ap _ (ma _ _) (ab9 G S.kind (λq=>rfl) yk n _ _ _ _ (h ds d hg) O H O _ H _ ?_ ?_ (λq q q q z=>by show nn z) ?_)
  .show⟨hO,λq h=>h,λq h=>.inl h,AH.refl H,λi d' hi=>?_,⟨λq q=>ag,λi s hi hs=>?_,λi b hb=>NE hb,λi j b hb=>NE hb⟩,(λm hm=>by rw[hmb]at hm;show nomatch hm),(λm hm=>by rw[hmb]at hm;show nomatch hm),(λm hm=>by rw[hmb]at hm;show nomatch hm)⟩
   .delta G8 at hi;rw[QV]at hi;k_lt hi;.ext hlt;rw[i9]at hi;let⟨d2,h2,e2⟩:=bo hi;cases e2;show au (hd.get h2) λv hv rv=>ap v ?_ rv;delta L2.start;rw[UW (by rw[bt,hd.length];rw[bt]at hlt;show hlt),i9,hv];rfl
    .rw[MT]at hi;k_lt hi;.cases hi
     .trivial
   .delta G8 at hi;rw[QV]at hi;k_lt hi;.rw[i9]at hi;let⟨d2,h2,e2⟩:=bo hi;subst e2;show nb hs
    .rw[MT]at hi;k_lt hi;.obtain rfl:=fo hi;show nb hs
     .show nn hi
  .delta L2.start;rw[e9,bt,avc,hd.length,(W ds d hg)];lia
  .intro d' e v H' s' dv;cases e;show a v H' s' dv
end
noncomputable def bare(Γ:Ctx):Ctx:={Γ with k:=0,cls:=λj=>0,ad:=λj=>0,pw:=af}
def ad8(Γ:Ctx):∀n,A9 Γ n=A9 (bare Γ) n
 |0=>rfl
 |n+1=>by funext fl sc η e;change IV _ _ _ _ _ _=IV _ _ _ _ _ _;rw[ad8 Γ n];rfl
def apt(Γ:Ctx)(sc:cz)(n:ai)(r:ab Sl->ab Stmt->(ab Sl->ah Out)->ah Out)(ξ:ab Sl)(st:Stmt)(k:ab Sl->ah Out):stK Γ sc n r ξ st k=stK (bare Γ) sc n r ξ st k:=by delta stK SE R8 XO XN XM XJ XI XQ R9 SA SD stI SG LA;rw[ad8 Γ n];rfl
def aca(Γ:Ctx)(sc:cz):∀n ξ j k,BP Γ sc n ξ j k=BP (bare Γ) sc n ξ j k
 |0,_,_,_=>rfl
 |n+1,_,[],_=>rfl
 |n+1,ξ,st::rest,k=>by
  let q:BP Γ sc n=BP (bare Γ) sc n:=by funext ξ j k;show aca Γ sc n ξ j k
  change stK Γ sc n (BP Γ sc n) ξ st (λξ'=>BP Γ sc n ξ' rest k)=stK (bare Γ) sc n (BP (bare Γ) sc n) ξ st (λξ'=>BP (bare Γ) sc n ξ' rest k);rw[q,apt]
def DI:ab (Str×(ab D->ah D))->Str->ah (ab D->ah D)
 |[],_=>af
 |y::r,x=>if x=y.1 then aa y.2 else DI r x
def DJ:ab (Str×D)->Str->ah D
 |[],_=>af
 |y::r,x=>if x=y.1 then aa y.2 else DJ r x
def AK:ah Out->ah D
 |some (.ret d)=>aa d
 |_=>af
def aa4(h:AK r=aa d):r=aa (.ret d):=by delta AK at h;k_lt h;all_goals lia
def d5(r):AK (r.map Out.ret)=r:=by cases r<;>rfl
section
variable(P:de)(w:c9)(K:ba)(G:Str->ah a6)(B:Heap)(cls:Str->Addr)
def G9(x:Str)(st:Stmt)(ps:ab Str):Prop:=∃f fd,pj K x x st f fd/\G x=aa (.ref f)/\og K (.ref f)=ae/\Binds K fd ps []
def BR(x:Str)(d:D):Prop:=∃v u,G x=aa u/\RelV v u/\∀H,Dr K cls H v d
def EU(k:ai):ab (Str×(ab D->ah D))->Prop
 |[]=>True
 |y::r=>AW P w K G B cls y.1 k y.2/\EU k r
def EV:ab (Str×D)->Prop
 |[]=>True
 |y::r=>BR K G cls y.1 y.2/\EV r
end
section
variable{P:de}{w:c9}{K:ba}{G:Str->ah a6}{B:Heap}{cls:Str->Addr}
def AW.mono(h:AW P w K G B cls x j g)(e:j<=k:=by lia):AW P w K G B cls x k g:=by
 obtain⟨f,fd,ps,h1,h2,q,W⟩|⟨C,f,fd,ps,i,h1,h2,q,hi,W⟩:=h;.show .inl (o7 f fd ps h1 h2 q (W.mono e))
 .show .inr ⟨C,f,fd,ps,i,h1,h2,q,jh hi e,W⟩
def zy{st}(h:G9 K G x st ps):AW P w K G B cls x k λj=>none:=by show fg h λf fd _ h1 h2 h3=>.inl (o7 f fd ps h1 h2 h3 ⟨λvs H Q E q=>(by let⟨_,_,_,_,_,q,_⟩:=q;trivial),λA W s H args us vs Q E j j j j q=>(by let⟨_,_,_,_,_,q,_⟩:=q;trivial)⟩)
def EU.get:∀{fs},EU P w K G B cls k fs->∀{x g},DI fs x=aa g->AW P w K G B cls x k g:=by
 intro fs;induction fs with
 |nil=>intro _ _ _ h;trivial
 |cons y r I=>
  intro ha x g h;delta DI at h;k_lt h;.ext e;injection h with h;subst h;subst e;show ha.1
  .show I ha.2 h
def EV.get:∀{cs},EV K G cls cs->∀{x d},DJ cs x=aa d->BR K G cls x d:=by
 intro cs;induction cs with
 |nil=>intro _ _ _ h;trivial
 |cons y r I=>
  intro ha x d h;delta DJ at h;k_lt h;.ext e;injection h with h;subst h;subst e;show ha.1
  .show I ha.2 h
def zm{st}(W:G9 K G x st ps)(S:iz N ps (AO st))
 (hf:EU P w K G B cls k fs)(hc:EV K G cls cs)(q:∀c f,(c,f)∈fl->fy K (cls c)/\BG K (cls c) f)(hb:∀x∈GI,G x=af)
 (j:∀ds d,g ds=aa d->ds.length=ps.length)
 (hg:∀ds d,g ds=aa d->BP {N:=N,cls:=λζ=>0,k:=0,fields:=fl,eg:=DI fs,gq:=DJ cs} (AO st) n (G8 N ds) (BC st) (λζ=>af)=aa (.ret d)):AW P w K G B cls x (k+1) g:=by show fg W λf fd F h1 h2 h3=>.inl (o7 f fd ps h1 h2 h3 (a5c (Γ:={N:=N,cls:=cls,k:=k,fields:=fl,eg:=DI fs,gq:=DJ cs,pw:=aa (P,w)}) F S ⟨q,λy g' h'=>hf.get h',λy d h'=>hc.get h',hb,rfl⟩ rfl rfl j n λds d h=>by erw[aca,hg ds d h]))
end
inductive AD where
 |m(c:Str)(ns:ab Str)(l:ab D)
 |d(x:D)
abbrev eu:=ab AD->ah (ab (ab Str×ab D)×D)
structure MC where
 w9:Str->ah eu
 I0:Str->Str->ah eu
def CQ:ab V->ab AD->ab (Addr×Str)
 |.ref a::vs,.m c _ _::as=>(a,c)::CQ vs as
 |_::vs,_::as=>CQ vs as
 |_,_=>[]
inductive vp(K:ba)(cls:Str->Addr)(O:Addr->a4)(H:Hp):V->AD->Prop
 |m{a dx:Addr}{fs:ab (Str×V)}{c:Str}{ns:ab Str}{l:ab D}:O a=ae->H a=aa (.ins (cls c) dx fs)->fs.map (·.1)=ns->AJ K cls (rs O H) (fs.map (·.2)) l->vp K cls O H (.ref a) (.m c ns l)
 |d{v:V}{x:D}:Dr K cls (rs O H) v x->vp K cls O H v (.d x)
def SK(K:ba)(cls:Str->Addr)(O:Addr->a4)(H:Hp):ab (Addr×Str)->ab (ab Str×ab D)->Prop:=
 b6 λp r=>∃dx fs,H p.1=aa (.ins (cls p.2) dx fs)/\fs.map (·.1)=r.1/\AJ K cls (rs O H) (fs.map (·.2)) r.2
inductive LC(K:ba)(cls:Str->Addr)(g:eu)(vs:ab V)(H:Hp)(Q:VK)(E:XK):Prop|mk(O)(as)(fin)(hO:BU O H)(ha:b6 (vp K cls O H) vs as)(hn:((CQ vs as).map (·.1)).Nodup)(hg:g as=aa fin)
 (q:∀v H',(∀b o,b∉(CQ vs as).map (·.1)->H b=aa o->H' b=aa o)->SK K cls O H' (CQ vs as) fin.1->Dr K cls (rs O H') v fin.2->Q v H'):LC K cls g vs H Q E
section
variable(P:de)(w:c9)(K:ba)(G:Str->ah a6)(F:Heap)(cls:Str->Addr)
def CA(x:Str)(k:ai)(g:eu):Prop:=∃f fd ps,G x=aa (.ref f)/\og K (.ref f)=ae/\Binds K fd ps []/\g8 P w K G F ig k f fd ps (LC K cls g)
def F6(c m:Str)(k:ai)(g:eu):Prop:=fy K (cls c)/\∃f fd ps,Meth K (cls c) m f/\Binds K fd ps []/\g8 P w K G F ig k f fd ps (LC K cls g)
end
noncomputable def wm(Γ:Ctx)(A:ab dh):Ctx:={Γ with fi:=A}
def GL:ab dh->Str->ah dh
 |[],_=>af
 |m::A,x=>if m.x=x then aa m else GL A x
def F7(x:Str)(r:ab Str×ab D):ab dh->ab dh
 |[]=>[]
 |m::A=>if m.x=x then{m with ns:=r.1,l:=r.2}::A else m::F7 x r A
inductive OC where
 |m(x:Str)
 |d(d:D)
def AA4(A:ab dh)(sc:cz)(e:Expr):ah Str:=(FG e).bind λ⟨q,_⟩=>if B5 sc q.1&&(GL A q.1).isSome then aa q.1 else af
def OD(A:ab dh)(sc:cz)(e:Expr):ah (Str×Str):=(XG e).bind λ⟨q,_⟩=>if B5 sc q.1&&(q.2.2.2.1.endLine==q.2.2.2.2.line)&&(GL A q.1).isSome then aa (q.1,q.2.2.1)else af
def OE(C:MC)(A:ab dh)(x m:Str):ah (ab dh×D):=
 (GL A x).bind λb=>(C.I0 b.c m).bind λg=>if b.ns.any (λn=>decide (n=m))then af else(g [.m b.c b.ns b.l]).bind λr=>match r.1 with
  |[q]=>aa (F7 x q A,r.2)
  |_=>af
def EW(Γ:Ctx)(C:MC)(sc:cz)(n:ai)(η:En):ab dh->ab Expr->ah (ab dh×ab OC)
 |A,[]=>aa (A,[])
 |A,e::es=>if notStar e then(match AA4 A sc e with
  |some x=>(EW Γ C sc n η A es).map λr=>(r.1,.m x::r.2)
  |none=>(match OD A sc e with
   |some p=>(OE C A p.1 p.2).bind λr=>(EW Γ C sc n η r.1 es).map λq=>(q.1,.d r.2::q.2)
   |none=>(A9 (wm Γ A) n ae sc η e).bind λd=>(EW Γ C sc n η A es).map λq=>(q.1,.d d::q.2)))
  else af
noncomputable def fill(A:ab dh):ab OC->ah (ab AD)
 |[]=>aa []
 |.m x::ps=>(GL A x).bind λb=>(fill A ps).map (.m b.c b.ns b.l::.)
 |.d d::ps=>(fill A ps).map (.d d::.)
def OF:ab OC->ab Str
 |[]=>[]
 |.m x::ps=>x::OF ps
 |.d _::ps=>OF ps
def SM:ab Str->a4
 |[]=>ae
 |x::xs=>xs.all (λy=>decide (y≠x))&&SM xs
def LD:ab Str->ab (ab Str×ab D)->ab dh->ah (ab dh)
 |[],[],A=>aa A
 |x::xs,r::rs,A=>LD xs rs (F7 x r A)
 |_,_,_=>af
def HA(Γ:Ctx)(C:MC)(sc:cz)(n:ai)(η:En)(A:ab dh)(f:Str)(j:ab Expr):ah (ab dh×D):=
 (C.w9 f).bind λg=>(EW Γ C sc n η A j).bind λp=>if SM (OF p.2)then(fill p.1 p.2).bind λas=>(g as).bind λr=>(LD (OF p.2) r.1 p.1).map λμ'=>(μ',r.2)else af
def JA(A:ab dh)(r:ah D):ah (ab dh×D):=r.map λd=>(A,d)
def LF(C:MC)(sc:cz)(e:Expr):ah (Str×ab Expr):=(W6 e).bind λ⟨q,_⟩=>if !q.2.2.1.isEmpty&&EO sc q.1&&decide (q.1≠"__debug__")&&(C.w9 q.1).isSome then aa (q.1,q.2.2.1)else af
def FI(Γ:Ctx)(C:MC)(sc:cz)(n:ai)(η:En)(A:ab dh)(e:Expr):ah (ab dh×D):=match LF C sc e with
 |some p=>HA Γ C sc n η A p.1 p.2
 |none=>(match OD A sc e with
  |some p=>OE C A p.1 p.2
  |none=>(match e with
   |.BinOp a .Add b _=>(match LF C sc b with
    |some p=>(A9 (wm Γ A) n ae sc η a).bind λj=>(HA Γ C sc n η A p.1 p.2).bind λr=>(BI j r.2).map λd=>(r.1,d)
    |none=>JA A (A9 (wm Γ A) n ae sc η e))
   |.IfExp c a b _=>(match LF C sc a with
    |some p=>if FH c then AI (A9 (wm Γ A) n ae sc η c) (HA Γ C sc n η A p.1 p.2) (JA A (A9 (wm Γ A) n ae sc η b))else af
    |none=>JA A (A9 (wm Γ A) n ae sc η e))
   |_=>JA A (A9 (wm Γ A) n ae sc η e)))
def SN(C:MC)(A:ab dh)(sc:cz)(e:Expr):Bool:=(LF C sc e).isSome||(OD A sc e).isSome
def OG(f:Str):ab Str->ab Str
 |[]=>[f]
 |g::ns=>if g=f then g::ns else g::OG f ns
def OH(f:Str)(d:D):ab Str->ab D->ab D
 |g::ns,x::l=>if g=f then d::l else x::OH f d ns l
 |_,_=>[d]
abbrev p7:=ah (ab dh×D)
noncomputable def vSN(s:Stmt):ah {q:Str×Pos×Expr×Pos//s=.Assign [.Name q.1 q.2.1] q.2.2.1 q.2.2.2}:=match s with
 |.Assign [.Name x p] e r=>aa ⟨(x,p,e,r),rfl⟩
 |_=>af
noncomputable def vSA(s:Stmt):ah {q:Str×Pos×Str×Pos×Expr×Pos//s=.Assign [.Attribute (.Name q.1 q.2.1) q.2.2.1 q.2.2.2.1] q.2.2.2.2.1 q.2.2.2.2.2}:=match s with
 |.Assign [.Attribute (.Name x p) f t] e r=>aa ⟨(x,p,f,t,e,r),rfl⟩
 |_=>af
noncomputable def vSG(s:Stmt):ah {q:Str×Pos×Str×Pos×Expr×Pos//s=.AugAssign (.Attribute (.Name q.1 q.2.1) q.2.2.1 q.2.2.2.1) .Add q.2.2.2.2.1 q.2.2.2.2.2}:=match s with
 |.AugAssign (.Attribute (.Name x p) f t) .Add e r=>aa ⟨(x,p,f,t,e,r),rfl⟩
 |_=>af
section
variable(Γ:Ctx)(C:MC)(sc:cz)(n:ai)(A:ab dh)(B:ab Sl)(st:Stmt)(k:ab dh->ab Sl->p7)
def SO:p7:=(CG (stK (wm Γ A) sc n (BP (wm Γ A) sc n) B st λξ'=>aa (.next ξ'))).bind λξ'=>k A ξ'
def JB(x f:Str)(e:Expr)(g:dh->ah D->ah D):p7:=if B5 sc x then(GL A x).bind λb=>if decide ((b.c,f)∈Γ.fields)&&decide (b.ns.length<1000)then
 (g b (A9 (wm Γ A) n ae sc (vals (AN Γ.N (AL e) B)) e)).bind λd=>k (F7 x (OG f b.ns,OH f d b.ns b.l) A) (AN Γ.N (AL e) B)else af else af
def SQ:p7:=match vSG st with
 |some ⟨q,_⟩=>JB Γ sc n A B k q.1 q.2.2.1 q.2.2.2.2.1 λb r=>AG (HV λi j=>.int (i+j)) (G4 b.ns b.l q.2.2.1) r
 |none=>SO Γ sc n A B st k
def SR:p7:=match vSA st with
 |some ⟨q,_⟩=>JB Γ sc n A B k q.1 q.2.2.1 q.2.2.2.2.1 λj r=>r
 |none=>SQ Γ sc n A B st k
def SS:p7:=match vSN st with
 |some ⟨q,_⟩=>if SN C A sc q.2.2.1 then(if C1 sc q.1&&EQ A q.1 then(slot Γ.N q.1).bind λi=>(FI Γ C sc n (vals (AN Γ.N (AL q.2.2.1) B)) A q.2.2.1).bind λr=>k r.1 ((AN Γ.N (AL q.2.2.1) B).set i (.val r.2))else af)else SO Γ sc n A B st k
 |none=>SR Γ sc n A B st k
end
noncomputable def stM(Γ:Ctx)(C:MC)(sc:cz)(n:ai)(j:ab dh->ab Sl->ab Stmt->(ab dh->ab Sl->p7)->p7)(A:ab dh)(B:ab Sl)(st:Stmt)(k:ab dh->ab Sl->p7):p7:=match st with
 |.Return (aa e) _=>FI Γ C sc n (vals (E2 B)) A e
 |.Return af _=>aa (A,.bj)
 |.If c a b _=>if FH c then AI (A9 (wm Γ A) n ae sc (vals (E2 B)) c) (j A B a k) (j A B b k)else af
 |.Expr e p=>if SN C A sc e then(FI Γ C sc n (vals (AN Γ.N (AL e) B)) A e).bind λr=>k r.1 (AN Γ.N (AL e) B)else SO Γ sc n A B (.Expr e p) k
 |st=>SS Γ C sc n A B st k
def E5(Γ:Ctx)(C:MC)(sc:cz):ai->ab dh->ab Sl->ab Stmt->(ab dh->ab Sl->p7)->p7
 |0,_,_,_,_=>af
 |_+1,A,B,[],k=>k A B
 |n+1,A,B,st::rest,k=>stM Γ C sc n (E5 Γ C sc n) A B st λμ' ξ'=>E5 Γ C sc n μ' ξ' rest k
structure GE(Γ:Ctx)(C:MC)(X:Cx):Prop where
 w9:∀x g,C.w9 x=aa g->CA X.prog X.w X.K X.mg X.base Γ.cls x Γ.k g
 I0:∀c m g,C.I0 c m=aa g->F6 X.prog X.w X.K X.mg X.base Γ.cls c m Γ.k g
section
variable{Γ:Ctx}{X:Cx}{C:MC}{sc:cz}{N:a4}
def GX.wm(G:GX Γ X N sc)(A):GX (wm Γ A) X N sc:=⟨G.N,G.nd,G.calm,G.room,G.OB,G.nt,G.gl,G.K4,G.DZ,G.eg,G.gq,G.gu,G.pw⟩
def aaa:∀{A}{x}{b},GL A x=aa b->b∈A/\b.x=x
 |[],_,_,h=>yT
 |m::A,x,b,h=>by
  delta GL at h;k_lt h;.grind
  .let⟨h1,h2⟩:=aaa h;grind
def aa5(x)(r):∀A,(F7 x r A).map (·.x)=A.map (·.x)
 |[]=>rfl
 |m::A=>by
  delta F7;split;.rfl
  .rw[b9,b9,aa5 x r A]
def apu:∀{xs}{rs}{A μ'},LD xs rs A=aa μ'->μ'.map (·.x)=A.map (·.x)
 |[],[],A,μ',h=>by cases h;rfl
 |x::xs,r::rs,A,μ',h=>by rw[apu (xs:=xs) h,aa5]
 |[],_::_,_,_,h=>yT
 |_::_,[],_,_,h=>yT
def apv:∀{A},(A.map (·.x)).Nodup->j∈F7 x r A->∃m∈A,j.x=m.x/\j.c=m.c/\((m.x≠x/\j=m)\/(m.x=x/\j.ns=r.1/\j.l=r.2))
 |[],_,h=>by cases h
 |m::A,nd,h=>by
  rw[b9,gd]at nd;delta F7 at h;k_lt h
  .ext e;obtain rfl|h:=df.mp h;.walk
   .show⟨j,dj _ h,rfl,rfl,.inl ⟨λz=>nd.1 (by walk),rfl⟩⟩
  .obtain rfl|h:=df.mp h;.walk
   .show au (apv nd.2 h) λq h1 h2=>ap q (dj _ h1) h2
def apw:∀{xs},SM xs=ae->xs.Nodup
 |[],_=>ol
 |x::xs,h=>by delta SM at h;rw[cg]at h;show gd.mpr ⟨λz=>ff (mr.mp h.1 x z) rfl,apw h.2⟩
def apx:∀{xs}{rs}{A μ'},xs.Nodup->(A.map (·.x)).Nodup->LD xs rs A=aa μ'->j∈μ'->
 ∃m∈A,j.x=m.x/\j.c=m.c/\((m.x∉xs/\j=m)\/∃r,(m.x,r)∈xs.zip rs/\j.ns=r.1/\j.l=r.2)
 |[],[],A,μ',_,_,h,hm=>by cases h;show wq j hm rfl rfl (.inl ⟨qo,rfl⟩)
 |x::xs,r::rs,A,μ',W,nd,h,hm=>by
  rw[gd]at W;show QY λw=>lz (apx W.2 (by simp_all[aa5]) h hm) λm1 h1 e1 e2 h2=>lz (apv nd h1) λm g1 g2 g3 q=>?_;apply w.f;show wq m g1 (e1.trans g2) (e2.trans g3) ?_;obtain⟨h2,rfl⟩|⟨r1,h2,h3⟩:=h2
  .obtain⟨q,rfl⟩|⟨rfl,q⟩:=q;.show .inl ⟨λz=>(df.mp z).elim q h2,rfl⟩
   .show .inr (ap r d7 q)
  .show .inr ⟨r1,dj _ (g2▸h2),h3⟩
 |[],_::_,_,_,_,_,h,_=>yT
 |_::_,[],_,_,_,_,h,_=>yT
section
variable{K:ba}{F O:Addr->a4}{B H H':Hp}{E:L2.St}{J:ab Sl}{A μ':ab dh}
def ER.eff(e:ER (wm Γ A) K F B O H E J){L:ab Addr}(hL:∀a∈L,F a=ae/\B a=af/\H' a≠af)(hH:∀b o,b∉L->H b=aa o->H' b=aa o)
 (hm:∀W∈μ',∃m∈A,W.x=m.x/\W.c=m.c/\((W=m/\∀(i)a,slot Γ.N m.x=aa i->E[i]?=aa (aa (.ref a))->a∉L)\/∃i a dx fs,slot Γ.N m.x=aa i/\E[i]?=aa (aa (.ref a))/\a∈L/\H' a=aa (.ins (Γ.cls m.c) dx fs)/\fs.map (·.1)=W.ns/\AJ K Γ.cls (rs O H') (fs.map (·.2)) W.l)):
 AH (rs O H) (rs O H')/\ER (wm Γ μ') K F B O H' E J:=by
 let sm:AH (rs O H) (rs O H'):=λb o q=>by
  let nO:O b=false:=by
   cases z:O b with
   |false=>rfl
   |true=>delta rs at q;rw[aj z]at q;trivial
  delta rs;erw[ao (by grind),hH b o (λz=>by rw[e.sub b (hL b z).1]at nO;trivial) (cq _ _ _ _ q)]
 show⟨sm,λb hb=>?_,e.sub,e.ex,λb o q=>hH b o (λz=>by rw[(hL b z).2.1]at q;trivial) (e.base _ _ q),λi d h=>au (e.val i d h) λv g1 g2=>ap v g1 (g2.up sm),?_,λW hm'=>?_,λm1 h1 m2 h2 i j a q1 q2 q3 q4=>?_,λm1 h1 i q1=>?_⟩
 .by_cases z:b∈L;.show(hL b z).2.2
  .cases y:H b with
   |none=>show cj y (e.has b hb)
   |some o=>erw[hH b o z y,λq=>yT]
 .let⟨M,w⟩:=e.own;show⟨M,λi s h1 h2=>au (w.at_ i s h1 h2) λv g1 g2=>ap v g1 (g2.mono (λb o hb q=>hH b o (λz=>by let:=(w.fj i b hb).2.1;rw[(hL b z).1]at this;trivial) q) sm λζ q=>q),w.fj,w.ds⟩
 .show QY λzz=>QY λz0=>lz (hm W hm') λm g1 g2 g3 g4=>?_;obtain⟨rfl,g5⟩|⟨i,a,dx,fs,k1,k2,k3,k4,k5,k6⟩:=g4;.show lh (e.jy W g1) λi a dx fs h1 h2 h3 h4 h5 h6 h7=>?_;apply zz.f;show ng i a dx fs h1 h2 h3 h4 (hH a _ (g5 i a h1 h2) h5) h6 (h7.up sm)
  .apply zz.f;erw[g2,g3,ng i a dx fs k1 k2 ((hL a k3).1) ((hL a k3).2.1) k4 k5 k6]
 .show bz (hm m1 h1) λm1' g1 g2 _=>bz (hm m2 h2) λm2' k1 k2 _=>?_;rw[g2]at q1;rw[k2]at q2;show e.pq m1' g1 m2' k1 i j a q1 q2 q3 q4
 .let⟨m1',g1,g2,_⟩:=hm m1 h1;rw[g2]at q1⊢;show e.rp m1' g1 i q1
def AA5(Γ:Ctx)(K:ba)(O:Addr->a4)(H:Hp)(E:L2.St)(v:V):OC->Prop
 |.m x=>∃i,slot Γ.N x=aa i/\E[i]?=aa (aa v)
 |.d d=>Dr K Γ.cls (rs O H) v d
def XT(Γ:Ctx)(E:L2.St)(A:ab dh)(x:Str)(p:Addr×Str):Prop:=∃i,slot Γ.N x=aa i/\E[i]?=aa (aa (.ref p.1))/\∃b∈A,b.x=x/\b.c=p.2
def a5d(e:ER (wm Γ A) K F B O H E J){ps}{vs}{as}(h0:b6 (AA5 Γ K O H E) vs ps)(h:fill A ps=aa as):b6 (vp K Γ.cls O H) vs as/\b6 (XT Γ E A) (OF ps) (CQ vs as):=by
 induction h0 generalizing as with
 |nil=>cases h;show⟨.nil,.nil⟩
 |@cons v p vs ps h1 t I=>
 cases p with
 |m x=>let⟨b,hb,h⟩:=ay h;let⟨q,ha,rfl⟩:=bo h;let⟨W,q2⟩:=I ha;show au h1 λi k1 k2=>?_;let⟨mb,mx⟩:=aaa hb;show lh (e.jy b mb) λj a dx fs g1 g2 g3 g4 g5 g6 g7=>?_;let hij:aa j=aa i:=g1.symm.trans (by erw[mx,k1]);cases hij;rw[k2]at g2;cases g2;show⟨.cons (.m (e.sub a g3) g5 g6 g7) W,.cons ⟨i,k1,k2,b,mb,mx,rfl⟩ q2⟩
 |d d=>
  let⟨q,ha,rfl⟩:=bo h;let⟨W,q2⟩:=I ha;show⟨.cons (.d h1) W,?_⟩;let:CQ (v::vs) (.d d::q)=CQ vs q:=by cases v<;>rfl
  erw[this,q2]
def b6.ag6{R}(h:b6 R as bs):∀b∈bs,∃a∈as,R a b:=by induction h<;>grind
def a5e(e:ER (wm Γ A) K F B O H E J){xs}{ps}(h0:b6 (XT Γ E A) xs ps)(nd:xs.Nodup):(ps.map (·.1)).Nodup:=by
 induction h0 with
 |nil=>simp
 |@cons _ p xs _ h t I=>rw[gd]at nd;erw[b9,gd,⟨λz=>?_,I nd.2⟩];let⟨q,hq,eq⟩:=gx.mp z;show au (t.ag6 q hq) λy hy W=>j7 W λj j1 j2 b' zq32_2=>d9 zq32_2 λmb' bx' _=>j7 h λi i1 i2 b zq31_1=>d9 zq31_1 λmb bx _=>?_;rw[eq]at j2;let:=e.pq b mb b' mb' i j p.1 (by erw[bx,i1]) (by erw[bx',j1]) i2 j2;subst this;let h1:=slot_get i1;rw[slot_get j1]at h1;grind
def a5f{R}{S}(h:b6 R as bs)(g:b6 S bs cs):∀a c,(a,c)∈as.zip cs->∃b∈bs,R a b/\S b c:=by
 induction h generalizing cs with
 |nil=>simp
 |cons r _ i=>cases g with|cons s u=>
  intro a c h;obtain z|h:=df.mp h;.grind
  .show au (i u a c h) λb h1 h2=>ap b (dj _ h1) h2
def ER.called(e:ER (wm Γ A) K F B O H E J)(hnd:(A.map (·.x)).Nodup)(nx:xs.Nodup)(hx:b6 (XT Γ E A) xs ps)(hf:SK K Γ.cls O H' ps rs')(hH:∀b o,b∉ps.map (·.1)->H b=aa o->H' b=aa o)
 (hs:LD xs rs' A=aa μ'):AH (rs O H) (rs O H')/\ER (wm Γ μ') K F B O H' E J:=by
 show e.eff (λa ha=>?_) hH λm' hm'=>?_;.let⟨p,hp,rfl⟩:=gx.mp ha;let⟨x,hx1,i,i1,i2,b,mb,bx,bc⟩:=hx.ag6 p hp;show lh (e.jy b mb) λj a dx fs g1 g2 g3 g4 g5 g6 g7=>?_;let hij:aa j=aa i:=g1.symm.trans (by erw[bx,i1]);cases hij;rw[i2]at g2;cases g2;show⟨g3,g4,?_⟩;let:=hf.apg p hp;show au this λr _ zq42_1=>jd zq42_1 λdx' fs' q _=>?_;erw[q,λz=>yT]
 .show lz (apx nx hnd hs hm') λm h1 h2 h3 h4=>wq m h1 h2 h3 (QY λw=>?_);obtain⟨k1,k2⟩|⟨r,k1,k2,k3⟩:=h4;.apply w.f;show .inl ⟨k2,λi a q1 q2 z=>?_⟩;let⟨p,hp,rfl⟩:=gx.mp z;let⟨x,hx1,j,j1,j2,b,mb,bx,bc⟩:=hx.ag6 p hp;let:=e.pq m h1 b mb i j p.1 q1 (by erw[bx,j1]) q2 j2;subst this;let y:=slot_get j1;rw[slot_get q1]at y;show k1 (by erw[fo y,hx1])
  .show j7 (a5f hx hf _ _ k1) λp hp W dx zq37_3=>j7 W λi i1 i2 b zq37_2=>d9 zq37_2 λmb bx bc=>bz zq37_3 λfs f1 f2 f3=>?_;clear W zq37_2 zq37_3;let hb:=by
    let:∀{l:ab dh},(l.map (·.x)).Nodup->b∈l->m∈l->b.x=m.x->b=m:=by intro l;induction l<;>grind
    show this hnd mb h1 bx
   subst hb;apply w.f;show .inr ⟨i,p.1,dx,fs,i1,i2,qp hp,by erw[bc,f1],by erw[k2,f2],by erw[k3,f3]⟩
end
end
section
variable{Γ:Ctx}{X:Cx}{C:MC}{sc:cz}{n:ai}{η:En}{A μ':ab dh}
def ag7(h:OE C A x m=aa (μ',d)):μ'.map (·.x)=A.map (·.x):=by
 let⟨b,_,h⟩:=ay h;let⟨g,_,h⟩:=ay h;k_lt h;.trivial
 .let⟨r,_,h⟩:=ay h;grind[aa5]
def apy:∀{es}{A μ'}{ps},EW Γ C sc n η A es=aa (μ',ps)->μ'.map (·.x)=A.map (·.x):=by
 intro es;induction es with
 |nil=>intro A μ' ps h;cases h;rfl
 |cons e es I=>
  intro A μ' ps h;delta EW at h;k_lt h
  .k_lt h;.let⟨r,hr,e⟩:=bo h;injection e with e;subst e;show I hr
   .k_lt h;.let⟨r,hr,h⟩:=ay h;let⟨q,j,e⟩:=bo h;grind[ag7]
    .let⟨r,hr,h⟩:=ay h;let⟨q,j,e⟩:=bo h;clear h;injection e with e;subst e;show I j
  .trivial
def ag8(h:HA Γ C sc n η A f es=aa (μ',d)):μ'.map (·.x)=A.map (·.x):=by
 let⟨g,_,h⟩:=ay h;let⟨p,hp,h⟩:=ay h;k_lt h;.let⟨as,_,h⟩:=ay h;let⟨r,_,h⟩:=ay h;let⟨q,j,e⟩:=bo h;injection e with e;subst e;show(apu j).trans (apy (by omega))
 .trivial
def SU(Γ:Ctx)(X:Cx)(η:En)(A:ab dh)(e:Expr)(r:ah (ab dh×D)):Prop:=∀μ' d,r=aa (μ',d)->∀q B O j H ξ Q,η=vals ξ->ER (wm Γ A) X.K q B O H j ξ->(A.map (·.x)).Nodup->
 (∀v H',AH (rs O H) (rs O H')->ER (wm Γ μ') X.K q B O H' j ξ->Dr X.K Γ.cls (rs O H') v d->Q v H')->wE X e j H Q
def ad9(h:DA (wm Γ A) X η e r):SU Γ X η A e (JA A r):=by intro μ' d hr O0 B O W H ξ Q j he _ q;let⟨d',hd,e'⟩:=bo hr;cases e';subst j;show h d hd O W H Q he.has he.vr λv H' s' dv=>q v H' (AH.rs O s') (he.up s') dv
def apz(h:OD A sc e=aa p):∃px apos cpos,e=.Call (.Attribute (.Name p.1 px) p.2 apos) [] [] cpos/\B5 sc p.1=ae/\(apos.endLine==cpos.line)=true:=by obtain⟨⟨_,rfl⟩,-,h⟩:=ay h;grind
def a5g:∀(fs:ab (Str×V)),(fs.map (·.1)).any (λn=>decide (n=m))=ag->fs.lookup m=af
 |[],_=>rfl
 |(k,v)::fs,h=>by grind
def a5h(q:(apos.endLine==cpos.line)=ae):eval (.Call (.Attribute (.Name x px) m apos) [] [] cpos) env=(do
 let j<-eval (.Name x px) env
 UK apos.atName
 let(f,first)<-QF [j] (Y9 j m (do return(<-importBound (.Name x px) env).getD ae))
 au9 cpos f first (kb cpos (ed [] env)) (UR cpos (US [] env))):=by
 let hp:awu ae (.Name x px) env apos cpos=pure cpos:=by delta awu;rw[q];rfl
 change(do
  let j<-eval _ env
  UK apos.atName
  let(f,first)<-QF [j] _
  let W<-awu ae _ env apos cpos
  au9 W f first _ _)=_;rw[hp];rfl
def ap0(G:GX Γ X fl sc)(E:GE Γ C X)(h:OD A sc e=aa p):SU Γ X η A e (OE C A p.1 p.2):=by
 show λμ' d hr O0 B O σ H ξ Q hη he hnd q=>QY λz=>kj (apz h) λpx apos cpos j hx hln=>?_;subst j;let⟨b,hb,hr⟩:=ay hr;let⟨g,hg,hr⟩:=ay hr;k_lt hr;.trivial
 .let⟨r,hgr,hr⟩:=ay hr;let⟨mb,mx⟩:=aaa hb;show lh (he.jy b mb) λi a dx fs g1 g2 g3 g4 g5 g6 g7=>?_;apply z.f;let g1':slot Γ.N p.1=aa i:=by erw[<-mx,g1]
  show xA (E.I0 _ _ _ hg) λcl W=>kj W λf fd ps hm hbd F=>PE.w (alf (p6 G hx g1') cl hm F G.room hbd .nil wz (a5h hln)) ⟨_,g2,a,dx,fs,rfl,g5,a5g fs yL,⟨O,[.m b.c b.ns b.l],r,he.has,.cons (.m (he.sub a g3) g5 g6 g7) .nil,by change[_].Nodup;simp,hgr,λv H' hH hf dv=>?_⟩⟩;k_lt hr;.ext q0 hq0;cases hr;rw[hq0]at hf;let⟨sm,e2⟩:=he.called hnd (gd.mpr ⟨qo,ol⟩) (.cons ⟨i,g1',g2,b,mb,mx,rfl⟩ .nil) hf hH rfl;walk
  .trivial
def a5i(h:AA4 A sc e=aa x):∃px,e=.Name x px/\B5 sc x=ae/\∃b,GL A x=aa b:=by
 obtain⟨⟨_,rfl⟩,-,h⟩:=ay h;dsimp at h;k_lt h<;>w_top h
 ext hc;rw[cg]at hc;injection h with h;subst h;show et _ rfl hc.1 (MS.mp hc.2)
set_option tactic.hygienic true in
def a5j(G:GX Γ X ae sc)(E:GE Γ C X):∀(es)(A μ')(ps),EW Γ C sc n η A es=aa (μ',ps)->(∀e∈es,notStar e=ae)/\∀(O0)(B)(O)(W)(H)(ξ)(Q),η=vals ξ->ER (wm Γ A) X.K O0 B O H W ξ->(A.map (·.x)).Nodup->
 (∀vs H',AH (rs O H) (rs O H')->ER (wm Γ μ') X.K O0 B O H' W ξ->b6 (AA5 Γ X.K O H' W) vs ps->Q vs H')->wA X es W H Q:=by
 intro es;induction es with
 |nil=>intro A μ' ps h;cases h;show⟨λe he=>(nomatch he),λO0 B O W H ξ Q ζ he ζ q=>PA.w fx (q [] H (AH.refl _) he .nil)⟩
 |cons e es I=>
  intro A μ' ps h;delta EW at h;k_lt h
  .ext hst;let cons:∀{μ1:ab dh}{qs:ab OC}(_:EW Γ C sc n η μ1 es=aa (μ',qs)),(∀e'∈e::es,notStar e'=ae):=fun{μ1 qs}hq e' he'=>by
    clear h;obtain rfl|he':=df.mp he';.show hst
    .show(I _ _ _ hq).1 e' he'
   k_lt h
   .ext x hx;let⟨r,hr,eq⟩:=bo h;cases eq;show⟨cons (by rw[hr]),λO0 B O W H ξ Q j he hnd q=>j7 (a5i hx) λpx zq11_1 hnm b hb=>?_⟩;subst zq11_1;let⟨mb,mx⟩:=aaa hb;show iy (he.jy b mb) λi a zq9_1=>b7 zq9_1 λdx fs g1 g2 _=>?_;let g1':slot Γ.N x=aa i:=by erw[<-mx,g1]
    show PA.w (gc (p6 G hnm g1') (i6 X es) (dy hst)) ⟨_,g2,((I A r.1 r.2 hr).2 O0 B O W H ξ _ j he hnd λvs H' s' e' d'=>q _ H' s' e' (.cons (ap i g1' g2) d'))⟩
   .k_lt h;.ext p hp;let⟨r,hr,h⟩:=ay h;let⟨qq,hq,eq⟩:=bo h;cases eq;show⟨cons (by rw[hq]),λO0 B O W H ξ Q j he hnd q=>PA.w (gc (cf X e) (i6 X es) (dy hst)) (ap0 (η:=η) G E hp r.1 r.2 hr O0 B O W H ξ _ j he hnd λv H1 s1 e1 d1=>((I r.1 qq.1 qq.2 hq).2 O0 B O W H1 ξ _ j e1 (by erw[ag7 (d:=r.2) (μ':=r.1) (by rw[hr]),hnd]) λvs H' s' e' d'=>(q _ H' (s1.trans s') e' (.cons (Dr.up d1 s') d'))))⟩
    .let⟨d,hd,h⟩:=ay h;let⟨qq,hq,eq⟩:=bo h;cases eq;show⟨cons (by rw[hq]),λO0 B O W H ξ Q j he hnd q=>(PA.w (gc (cf X e) (i6 X es) (dy hst)) ((jt (wm Γ A) n).1 X ae sc (G.wm A) _ e d hd O W H _ he.has (by erw[j,he.vr]) λv H1 s1 d1=>((I A qq.1 qq.2 hq).2 O0 B O W H1 ξ _ j (he.up s1) hnd λvs H' s' e' d'=>(q _ H' ((AH.rs O s1).trans s') e' (.cons (Dr.up d1 s') d')))))⟩
  .show nn h
def ap1(h:LF C sc e=aa p):∃j a as pos,e=.Call (.Name p.1 j) (a::as) [] pos/\p.2=a::as/\EO sc p.1=ae/\p.1≠"__debug__":=by
 obtain⟨⟨⟨x,y,l,z⟩,rfl⟩,-,h⟩:=ay h;cases l;.show nn h
 grind
def ag9(G:GX Γ X ae sc)(E:GE Γ C X)(h:LF C sc e=aa p):SU Γ X η A e (HA Γ C sc n η A p.1 p.2):=by
 show λμ' d hr O0 B O σ H ξ Q hη he hnd q=>QY λz=>rl (ap1 h) λpf a as pos j hp2 hgl hdb=>?_;subst j;let⟨g,hg,hr⟩:=ay hr;let⟨pp,W,hr⟩:=ay hr;k_lt hr;.ext hdup;let⟨ads,hfl,hr⟩:=ay hr;let⟨r,hgr,hr⟩:=ay hr;let⟨m2,hm2,eq⟩:=bo hr;cases eq;rw[hp2]at W;let⟨hst,ha⟩:=a5j G E _ A pp.1 pp.2 W;show fh (E.w9 _ _ hg) λf fd ps h1 h2 h3 h4=>?_;apply z.f;show PE.w (afu h4 G.room (G.gl _ hgl) h1 h2 h3 .nil wz (i6 X _) (ll hdb) (dy (hst _ (d7 ..))) (w6 λe he=>hst e (dj _ he))) (ha O0 B O σ H ξ _ hη he hnd λvs H1 s1 e1 d1=>?_);rw[ip];let⟨ar,nm⟩:=a5d e1 d1 hfl;let nx:=apw hdup;show⟨O,ads,r,e1.has,ar,a5e e1 nm nx,hgr,λv H' hH hf dv=>?_⟩;let⟨sm,e2⟩:=e1.called (by rw[apy (by omega)];omega) nx nm hf hH hm2;show q v H' (s1.trans sm) e2 dv
 .trivial
def ap2(h:FI Γ C sc n η A e=aa (μ',d)):μ'.map (·.x)=A.map (·.x):=by
 let j:∀{r:ah D},JA A r=aa (μ',d)->μ'.map (·.x)=A.map (·.x):=fun{r}h=>by let⟨q,_,e⟩:=bo h;injection e with e;subst e;rfl
 delta FI at h;k_lt h;.show ag8 h
 .k_lt h;.show ag7 h
  .k_lt h
   .k_lt h;.let⟨W,_,h⟩:=ay h;let⟨r,hr,h⟩:=ay h;let⟨q,_,e⟩:=bo h;injection e with e;subst e;show ag8 (by rw[hr])
    .show j h
   .k_lt h
    .k_lt h
     .delta AI at h;k_lt h;.show ag8 h
      .show j h
      .trivial
     .trivial
    .show j h
   .show j h
set_option tactic.hygienic true in
def aha(G:GX Γ X ae sc)(E:GE Γ C X)(e):SU Γ X η A e (FI Γ C sc n η A e):=by
 intro μ' d hr;let sE:=(jt (wm Γ A) n).1 X ae sc (G.wm A);let sT:=(jt _ n).2 X ae sc (G.wm A);delta FI at hr;k_lt hr;.ext p hp;show ag9 G E hp μ' d hr
 .k_lt hr;.ext p hp;show ap0 G E hp μ' d hr
  .k_lt hr
   .ext a b pos _ _;k_lt hr;.ext p hp;show QY λz=>?_;let⟨da,hda,hr⟩:=ay hr;let⟨r,hcr,hr⟩:=ay hr;let⟨d',hadd,eq⟩:=bo hr;cases eq;apply z.f;show λO0 B O σ H ξ Q hη he j q=>PE.w (afq (ano (cls:=Γ.cls)) (cf X a) (cf X b)) ?_;clear z;subst hη;show sE _ a da hda O σ H _ he.has he.vr λv H1 W d1=>(ag9 G E hp r.1 r.2 (by rw[hcr]) O0 B O σ H1 ξ _ rfl (he.up W) j λw H2 s2 e2 d2=>⟨O,da,r.2,d,e2.has,Dr.up d1 s2,d2,hadd,λu H3 s3 d3=>q u H3 ((AH.rs O W).trans (s2.trans (AH.rs O s3))) (e2.up s3) d3⟩)
    .show ad9 (sE _ _) μ' d hr
   .ext c a b pos _ _;k_lt hr
    .ext p hp;k_lt hr
     .ext ht;intro O0 B O σ H ξ Q hη he j q;subst hη;delta AI at hr;k_lt hr;.ext hc;show PE.w (ac7 (nq X c) (cf X a) (cf X b)) (sT _ c ht _ hc O σ H _ he.has he.vr λH1 W=>(ag9 G E hp μ' d hr O0 B O σ H1 ξ _ rfl (he.up W) j λw H2 s2 e2 d2=>q w H2 ((AH.rs O W).trans s2) e2 d2))
      .ext hc;show PE.w (ac7 (nq X c) (cf X a) (cf X b)) (sT _ c ht _ hc O σ H _ he.has he.vr λH1 W=>(ad9 (sE _ b) μ' d hr O0 B O σ H1 ξ _ rfl (he.up W) j λw H2 s2 e2 d2=>q w H2 ((AH.rs O W).trans s2) e2 d2))
      .show nn hr
     .show nn hr
    .show ad9 (sE _ _) μ' d hr
   .show ad9 (sE _ _) μ' d hr
end
section
variable{Γ:Ctx}{X:Cx}{C:MC}{sc:cz}{n:ai}{η:En}{A μ':ab dh}
def a5k:uo e (aa (.Attribute o f p)) l env=pure false:=by cases e<;>rfl
def ap3(f)(v):∀fs,(CJ f v fs).map (·.1)=OG f (fs.map (·.1))
 |[]=>rfl
 |(g,x)::r=>by
  delta CJ;rw[b9];delta OG;split;.rfl
  .rw[b9,ap3 f v r]
def ap4{K}(j:Dr K cls H v d):∀(fs)(l),AJ K cls H (fs.map (·.2)) l->AJ K cls H ((CJ f v fs).map (·.2)) (OH f d (fs.map (·.1)) l)
 |[],l,h=>.cons j .nil
 |(g,x)::r,l,h=>by
  cases h.e with
  |cons h1 h2=>
   delta CJ;rw[b9];delta OH;split;.show .cons j h2
   .show .cons h1 (ap4 j r _ h2)
def ER.ap5{K}(e:ER (wm Γ A) K O0 B O H σ ξ)(hnd:(A.map (·.x)).Nodup)(hb:GL A x=aa b)(hi:slot Γ.N x=aa i)(ha:σ[i]?=aa (aa (.ref a)))(hH:H a=aa (.ins (Γ.cls b.c) dx fs))(hns:fs.map (·.1)=b.ns)(hl:AJ K Γ.cls (rs O H) (fs.map (·.2)) b.l)
   (hv:Dr K Γ.cls (rs O H) v d):ER (wm Γ (F7 x (OG f b.ns,OH f d b.ns b.l) A)) K O0 B O (upd H a (.ins (Γ.cls b.c) dx (CJ f v fs))) σ ξ:=by
 show QY λw=>?_;let⟨mb,mx⟩:=aaa hb;show lh (e.jy b mb) λj a' dx' fs' g1 g2 g3 g4 g5 g6 g7=>?_;let hij:aa j=aa i:=g1.symm.trans (by erw[mx,hi]);clear g1 g4 g5;cases hij;rw[ha]at g2;cases g2;let sm:AH (rs O H) (rs O (upd H a (.ins (Γ.cls b.c) dx (CJ f v fs)))):=λc o q=>by
  delta rs at q⊢;by_cases z:O c=ae;.lia
  .rw[a9 (λy=>z (by erw[y,e.sub a g3]))];omega
 apply w.f;show(e.called hnd (ps:=[(a,b.c)]) (gd.mpr ⟨qo,ol⟩) (.cons ⟨i,hi,ha,b,mb,mx,rfl⟩ .nil) (.cons (dq dx _ cy ?_ ?_) .nil) (λc o hc q=>?_) rfl).2;.rw[ap3,hns]
 .erw[<-hns,(ap4 hv fs b.l hl).up sm]
 simp_all[a9]
def a5l{fs:ab (Str×V)}{K}(j:fs.map (·.1)=ns)(hl:AJ K cls H (fs.map (·.2)) l)(h:G4 ns l f=aa d):∃v,fs.lookup f=aa v/\Dr K cls H v d:=by subst j;show ad0 fs l hl h
def SV(Γ:Ctx)(K:ba)(j:Addr->a4)(B:Hp)(H:Hp)(A:ab dh):Prop:=AH B H/\∀m∈A,∃dx fs,H (Γ.ad m.x)=aa (.ins (Γ.cls m.c) dx fs)/\fs.map (·.1)=m.ns/\AJ K Γ.cls (rs j H) (fs.map (·.2)) m.l
def ER.fin{K}(e:ER (wm Γ A) K j B O H σ ξ):SV Γ K j B H A:=by show⟨e.base,λm hm=>QY λz=>lh (e.jy m hm) λi a dx fs h1 h2 h3 h4 q W h7=>?_⟩;let:=e.rp m hm i h1;rw[h2]at this;cases this;apply z.f;show dq dx fs q W (h7.up (ab7 e.sub))
def ap6{e}(j:SN C A sc e=ae):IW e=false:=by
 delta SN at j;rw[jb]at j;obtain z|z:=j;.let⟨q,hq⟩:=MS.mp z;let⟨_,_,_,_,rfl,_⟩:=ap1 hq;rfl
 .let⟨q,hq⟩:=MS.mp z;show j8 (apz hq) λ_ _ _ W _=>?_;subst W;rfl
set_option tactic.hygienic true in
def a5m(G:GX Γ X ae sc)(E:GE Γ C X)(hk:sc.kind=.function)(hfn:∀x,X.fn x=ae)(hp:MK (az X.prog X.w) X.A X.env X.xe):∀(n)(A)(ξ)(ss)(K)(j),E5 Γ C sc n A ξ ss K=aa j->(A.map (·.x)).Nodup->
 ∀(O0)(B)(O)(σ)(H)(D),ER (wm Γ A) X.K O0 B O H σ ξ->σ.length=Γ.N.length->
 (∀μ' ξ' O' q H',K μ' ξ'=aa j->(μ'.map (·.x)).Nodup->ER (wm Γ μ') X.K O0 B O' H' q ξ'->q.length=Γ.N.length->D.nx q H')->(∀v H',SV Γ X.K O0 B H' j.1->Dr X.K Γ.cls (rs O0 H') v j.2->D.rt v H')->wS X ss D σ H:=by
 intro n;induction n with
 |zero=>show λA ξ ss K j h=>nn h
 |succ n ih=>
  intro A ξ ss;cases ss with
  |nil=>show λK j h W O0 B O σ H D e hl hw hr=>B9.w afi (hw A ξ O σ H h W e hl)
  |cons st rest=>
   show λK0 j h0 W O0 B O σ H D0 e hl hw0 hr0=>B9.w (j9 (agu X st) (ma X rest)) ?_;let h:stM Γ C sc n (E5 Γ C sc n) A ξ st _=aa j:=h0;let hwa:∀μ' ξ' O' q H',(λμ' ξ'=>E5 Γ C sc n μ' ξ' rest K0) μ' ξ'=aa j->(μ'.map (·.x)).Nodup->ER (wm Γ μ') X.K O0 B O' H' q ξ'->q.length=Γ.N.length->wS X rest D0 q H':=λμ' ξ' O' q H' hk' nd' e' hl'=>ih μ' ξ' rest K0 j hk' nd' O0 B O' q H' D0 e' hl' hw0 hr0;change CW X st {D0 with nx:=wS X rest D0} σ H;generalize hKK:(λμ' ξ'=>E5 Γ C sc n μ' ξ' rest K0)=K at h hwa;generalize hDD:({D0 with nx:=wS X rest D0}:Ends)=D;let hw:∀μ' ξ' O' q H',K μ' ξ'=aa j->(μ'.map (·.x)).Nodup->ER (wm Γ μ') X.K O0 B O' H' q ξ'->q.length=Γ.N.length->D.nx q H':=by subst hDD;show hwa
   let hr:∀v H',SV Γ X.K O0 B H' j.1->Dr X.K Γ.cls (rs O0 H') v j.2->D.rt v H':=by subst hDD;show hr0
   clear hwa hr0 hw0 hKK hDD h0;let Gm:=G.wm A;let iE:=λη e=>(jt (wm Γ A) n).1 X ae sc Gm η e;let iT:=λη e=>(jt (wm Γ A) n).2 X ae sc Gm η e;let pure_:∀st,_=aa j->CW X st D σ H:=λst h=>by let⟨ξ',h1,h2⟩:=ay h;show ag5 Gm hk hfn hp n (ab9 Gm hk hfn hp n) ξ st (λξ'=>aa (.next ξ')) (.next ξ') (apq h1) O0 B O σ H D e hl (λξ2 O' q H' hq e' hl'=>?_) (λd z=>by cases z);cases hq;show hw A ξ' O' q H' h2 W e' hl'
   delta stM at h;k_lt h;.ext e0 p;show au (e.je (ab6 ξ)) λO' hO' e'=>PS.w (abo (cf X _)) (aha G E e0 j.1 j.2 h O0 B O' σ H (E2 ξ) _ rfl e' W λv H1 s1 e1 d1=>hr v H1 e1.fin (d1.up (ab7 e1.sub)))
   .cases h;show PS.w akw (hr .bj H e.fin .bj)
   .
    ext c a b p;k_lt h
    .ext ht;show au (e.je (ab6 ξ)) λO' hO' e'=>?_;delta AI at h;k_lt h;.ext hc;show PS.w (afj (nq X c) (ma X a) (ma X b)) (iT _ _ ht _ hc O' σ H _ e'.has e'.vr λH1 s1=>?_);erw[aj rfl,ih A ξ a K j h W O0 B O σ H1 D (e.up s1) hl hw hr]
     .ext hc;show PS.w (afj (nq X c) (ma X a) (ma X b)) (iT _ _ ht _ hc O' σ H _ e'.has e'.vr λH1 s1=>?_);erw[ao gy,ih A ξ b K j h W O0 B O σ H1 D (e.up s1) hl hw hr]
     .show nn h
    .show nn h
   .
    ext e0 p;k_lt h;.ext hef;let⟨r,hd,h⟩:=ay h;show au (e.je (km Γ.N (AL e0) ξ)) λO' hO' e'=>PS.w (vg (cf X e0) (rq (ap6 hef))) (aha G E e0 r.1 r.2 hd O0 B O' σ H _ _ rfl e' W λv H1 s1 e1 d1=>hw r.1 _ O' σ H1 h (by erw[ap2 (d:=r.2) (μ':=r.1) (by rw[hd]),W]) e1 hl)
    .show pure_ _ h
   ext z1 z2 z3 z4;clear z1 z2 z3 z4;revert h;delta SS;obtain _|⟨⟨x,px,e0,p⟩,rfl⟩:=vSN st<;>intro h;rotate_left
   .dsimp only at h⊢;k_lt h
    .ext hef;k_lt h<;>w_top h
     ext hx;rw[cg]at hx;let⟨i,hi,h⟩:=ay h;let⟨r,hd,h⟩:=ay h;show au (e.je (km Γ.N (AL e0) ξ)) λO' hO' e'=>?_;let⟨l1,l2⟩:=pz G hfn hx.1;show PS.w (nk (by erw[G.N,G.nd]) (by erw[G.N,slot_get hi]) l1 (cf X e0) (rq (ap6 hef)) l2) (aha G E e0 r.1 r.2 hd O0 B O' σ H _ _ rfl e' W λv H1 s1 e1 d1=>?_);let hnm:=ap2 (d:=r.2) (μ':=r.1) (by rw[hd]);show hw r.1 _ O' _ H1 h (by erw[hnm,W]) (e1.put (by erw[hl,lj hi]) (λm hm z=>?_) d1) (by erw[qj,hl]);let⟨m0,h1,h2⟩:=gx.mp (by erw[<-hnm,qp hm]);let z1:=slot_get hi;rw[show Γ.N[i]?=aa m.x from slot_get z]at z1;show ff (mr.mp hx.2 m0 h1) (by erw[h2,fo z1])
    .show pure_ _ h
   revert h;delta SR;obtain _|⟨⟨x,px,f,p1,e0,p⟩,rfl⟩:=vSA st<;>intro h;rotate_left
   .dsimp only[JB]at h⊢;k_lt h
    .ext hx;let⟨b,hb,h⟩:=ay h;k_lt h
     .ext hc;rw[cg]at hc;let⟨d,hd,h⟩:=ay h;let⟨O',hO',e'⟩:=e.je (km Γ.N (AL e0) ξ);let⟨mb,mx⟩:=aaa hb;let⟨c1,c2⟩:=G.DZ _ _ (ff hc.1);show lh (e'.jy b mb) λi a dx fs g1 g2 g3 g4 g5 g6 g7=>?_;let g1':slot Γ.N x=aa i:=by erw[<-mx,g1]
      let pvx:=p6 (px:=px) G hx g1';show PS.w (pb pvx (cf X e0) a5k) (iE _ e0 d hd O' σ H _ e'.has e'.vr λv H1 s1 d1=>⟨_,g2,a,_,dx,fs,rfl,s1 _ _ g5,c1,c2,?_,hw _ _ O' σ _ h (by erw[aa5,W]) ((e'.up s1).ap5 W hb g1' g2 (s1 _ _ g5) g6 (g7.up (AH.rs O' s1)) d1) hl⟩);.erw[show fs.length=b.ns.length by rw[<-g6,bt],ff hc.2]
     .show nn h
    .show nn h
   revert h;delta SQ;obtain _|⟨⟨x,px,f,p1,e0,p⟩,rfl⟩:=vSG st<;>intro h;rotate_left
   .dsimp only[JB]at h⊢;k_lt h
    .ext hx;let⟨b,hb,h⟩:=ay h;k_lt h
     .ext hc;rw[cg]at hc;let⟨d,hd,h⟩:=ay h;let⟨O',hO',e'⟩:=e.je (km Γ.N (AL e0) ξ);let⟨mb,mx⟩:=aaa hb;let⟨c1,c2⟩:=G.DZ _ _ (ff hc.1);show lh (e'.jy b mb) λi a dx fs g1 g2 g3 g4 g5 g6 g7=>?_;let g1':slot Γ.N x=aa i:=by erw[<-mx,g1]
      let pvx:=p6 (px:=px) G hx g1';delta AG at hd;k_lt hd;.ext d1 d2 hd1 hd2;let⟨y1,y2,rfl,rfl,rfl⟩:=anm hd;let⟨v1,hv1,rv1⟩:=a5l g6 g7 hd1;cases rv1;show PS.w (ay9 pvx (cf X e0) aza) ⟨_,g2,a,_,dx,fs,_,rfl,g5,c1,c2,hv1,(iE _ e0 _ hd2 O' σ H _ e'.has e'.vr λv H1 s1 d1=>?_)⟩;cases d1;show⟨y1,y2,rfl,rfl,dx,fs,s1 _ _ g5,?_,hw _ _ O' σ _ h (by erw[aa5,W]) ((e'.up s1).ap5 W hb g1' g2 (s1 _ _ g5) g6 (g7.up (AH.rs O' s1)) (.int _)) hl⟩;.erw[show fs.length=b.ns.length by rw[<-g6,bt],ff hc.2]
      .show nn hd
     .show nn h
    .show nn h
   show pure_ _ h
end
noncomputable def xc(m:dh):Str×Str:=(m.x,m.c)
section
variable{Γ:Ctx}{X:Cx}{C:MC}{sc:cz}{n:ai}{η:En}{A μ':ab dh}
def aea(x)(r):∀A,(F7 x r A).map xc=A.map xc
 |[]=>rfl
 |m::A=>by
  delta F7;split;.rfl
  .rw[b9,b9,aea x r A]
def ap7:∀{xs}{rs}{A μ'},LD xs rs A=aa μ'->μ'.map xc=A.map xc
 |[],[],A,μ',h=>by cases h;rfl
 |x::xs,r::rs,A,μ',h=>by rw[ap7 (xs:=xs) h,aea]
 |[],_::_,_,_,h=>yT
 |_::_,[],_,_,h=>yT
def ap8(h:OE C A x m=aa (μ',d)):μ'.map xc=A.map xc:=by
 let⟨b,_,h⟩:=ay h;let⟨g,_,h⟩:=ay h;k_lt h;.trivial
 .let⟨r,_,h⟩:=ay h;grind[aea]
def a5n:∀{es}{A μ'}{ps},EW Γ C sc n η A es=aa (μ',ps)->μ'.map xc=A.map xc:=by
 intro es;induction es with
 |nil=>intro A μ' ps h;cases h;rfl
 |cons e es I=>
  intro A μ' ps h;delta EW at h;k_lt h
  .k_lt h;.let⟨r,hr,e⟩:=bo h;grind
   .k_lt h;.let⟨r,hr,h⟩:=ay h;let⟨q,j,e⟩:=bo h;grind[ap8]
    .let⟨r,hr,h⟩:=ay h;let⟨q,j,e⟩:=bo h;grind
  .trivial
def ahb(h:HA Γ C sc n η A f es=aa (μ',d)):μ'.map xc=A.map xc:=by
 let⟨g,_,h⟩:=ay h;let⟨p,hp,h⟩:=ay h;k_lt h;.let⟨as,_,h⟩:=ay h;let⟨r,_,h⟩:=ay h;let⟨q,j,e⟩:=bo h;injection e with e;subst e;show(ap7 j).trans (a5n (by omega))
 .trivial
def ahc(h:FI Γ C sc n η A e=aa (μ',d)):μ'.map xc=A.map xc:=by
 let j:∀{r:ah D},JA A r=aa (μ',d)->μ'.map xc=A.map xc:=fun{r}h=>by let⟨q,_,e⟩:=bo h;injection e with e;subst e;rfl
 delta FI at h;k_lt h;.show ahb h
 .k_lt h;.show ap8 h
  .k_lt h
   .k_lt h;.let⟨W,_,h⟩:=ay h;let⟨r,hr,h⟩:=ay h;let⟨q,_,e⟩:=bo h;grind[ahb]
    .show j h
   .k_lt h
    .k_lt h
     .delta AI at h;k_lt h;.show ahb h
      .show j h
      .trivial
     .trivial
    .show j h
   .show j h
set_option tactic.hygienic true in
def a5o:∀(n)(A)(ξ)(ss)(K)(j),E5 Γ C sc n A ξ ss K=aa j->(∀μ' ξ',K μ' ξ'=aa j->μ'.map xc=L->j.1.map xc=L)->A.map xc=L->j.1.map xc=L:=by
 intro n;induction n with
 |zero=>show λA ξ ss K j h=>nn h
 |succ n ih=>
  intro A ξ ss K0 j h0 hK0 q;cases ss with
  |nil=>show hK0 A ξ h0 q
  |cons st rest=>
   let h:stM Γ C sc n _ A ξ st _=aa j:=h0;let hK:∀μ' ξ',(λμ' ξ'=>E5 Γ C sc n μ' ξ' rest K0) μ' ξ'=aa j->μ'.map xc=L->j.1.map xc=L:=λμ' ξ' h'=>ih μ' ξ' rest K0 j h' hK0;generalize(λμ' ξ'=>E5 Γ C sc n μ' ξ' rest K0)=K at h hK;clear h0 hK0;let W:∀{r:ah (ab Sl)},(r.bind λξ'=>K A ξ')=aa j->j.1.map xc=L:=fun{r}h=>by let⟨ξ',_,h⟩:=ay h;show hK A ξ' h q
   delta stM at h;k_lt h;.erw[<-q,ahc h]
   .clear hK W;cases h;show q
   .k_lt h
    .delta AI at h;k_lt h;.show ih A ξ _ K j h hK q
     .show ih A ξ _ K j h hK q
     .show nn h
    .show nn h
   .k_lt h;.let⟨r,hr,h⟩:=ay h;show hK r.1 _ h (by erw[ahc (d:=r.2) (by rw[hr]),q])
    .show W h
   let fd:∀{x f e g},JB Γ sc n A ξ K x f e g=aa j->j.1.map xc=L:=fun{x f e g}h=>by
    delta JB at h;k_lt h<;>w_top h
    let⟨b,_,h⟩:=ay h;k_lt h<;>w_top h
    let⟨d,_,h⟩:=ay h;show hK _ _ h (by erw[aea,q])
   ext z1 z2 z3 z4;clear z1 z2 z3 z4;delta SS at h;k_lt h
   .k_lt h
    .k_lt h<;>w_top h
     let⟨i,_,h⟩:=ay h;let⟨r,hr,h⟩:=ay h;show hK r.1 _ h (by erw[ahc (by rw[hr]),q])
    .show W h
   delta SR at h;k_lt h;.show fd h
   delta SQ at h;k_lt h;.show fd h
   .show W h
end
noncomputable def startM:ab Str->ab AD->ab dh
 |x::ps,.m c ns l::as=>⟨x,c,ns,l⟩::startM ps as
 |_::ps,.d _::as=>startM ps as
 |_,_=>[]
noncomputable def AD.sl:AD->Sl
 |.m _ _ _=>.no
 |.d y=>.val y
def SW(N:ab Str)(as:ab AD):ab Sl:=as.map AD.sl++ZC (N.length-as.length) .no
def LG:ab Str->ab V->Str->Addr
 |p::ps,.ref a::vs,x=>if p=x then a else LG ps vs x
 |_::ps,_::vs,x=>LG ps vs x
 |_,_,_=>0
noncomputable def nl(m:dh):ab Str×ab D:=(m.ns,m.l)
def AQ(j:ab dh×D):ab (ab Str×ab D)×D:=(j.1.map nl,j.2)
def GN(Γ:Ctx)(C:MC)(sc:cz)(n:ai)(ps:ab Str)(body:ab Stmt):eu:=λas=>if as.length=ps.length then(E5 (bare Γ) C sc n (startM ps as) (SW Γ.N as) body λA j=>aa (A,.bj)).map AQ else af
def a5p(Γ)(C)(sc)(n):FI Γ C sc n=FI (bare Γ) C sc n:=by
 let h:∀A,A9 (wm Γ A) n=A9 (wm (bare Γ) A) n:=λA=>ad8 _ n;let ha:∀η es A,EW Γ C sc n η A es=EW (bare Γ) C sc n η A es:=by
  intro η es;induction es with
  |nil=>intro A;rfl
  |cons e es j=>simp_all[EW]
 funext η A e;let hc:∀f as,HA Γ C sc n η A f as=HA (bare Γ) C sc n η A f as:=λf as=>by delta HA;rw[ha]
 delta FI;walk
def ap9(Γ)(C)(sc):∀n,E5 Γ C sc n=E5 (bare Γ) C sc n
 |0=>rfl
 |n+1=>by
  let q:=λA=>by funext ξ j k;show aca (wm Γ A) sc n ξ j k
  funext A ξ j k;cases j with
  |nil=>rfl
  |cons st rest=>change stM Γ C sc n _ A ξ st _=stM _ C sc n _ A ξ st _;rw[ap9 Γ C sc n];delta stM SS SR SQ JB SO;rwa[a5p Γ C sc n,(λA=>ad8 (wm Γ A) n),q,(λA r ξ st k=>apt (wm Γ A) sc n r ξ st k)];rfl
def b6.get{R}:∀{as:ab j}{bs}{i:ai}{b:q},b6 R as bs->bs[i]?=aa b->∃a,as[i]?=aa a/\R a b
 |_,_,_,_,.nil,h=>yT
 |_,_,0,_,.cons r _,h=>yA
 |_,_,i+1,_,.cons _ t,h=>t.get h
def ahd:∀{ps}{as},m∈startM ps as->∃i:ai,ps[i]?=aa m.x/\as[i]?=aa (AD.m m.c m.ns m.l)
 |[],_,h=>yT
 |_::_,[],h=>yT
 |x::ps,.m c ns l::as,h=>by
  obtain rfl|h:=df.mp h;.show ap 0 rfl rfl
  .show au (ahd h) λi h1 h2=>ap (i+1) h1 h2
 |x::ps,.d y::as,h=>by delta startM at h;show au (ahd h) λi h1 h2=>ap (i+1) h1 h2
def ahe:∀(ps)(as),((startM ps as).map (·.x)).Sublist ps
 |[],_=>.slnil
 |_::_,[]=>List.nil_sublist _
 |x::ps,.m c ns l::as=>(ahe ps as).cons₂ _
 |x::ps,.d y::as=>(ahe ps as).cons _
def aeb:∀{vs}{as}{i:ai},vs[i]?=aa (.ref a)->as[i]?=aa (.m c ns l)->(a,c)∈CQ vs as
 |[],_,_,h,_=>yT
 |_::_,[],_,_,h=>yT
 |v::vs,x::as,0,h1,h2=>by cases h1;injection h2 with h2;subst h2;show d7 ..
 |v::vs,x::as,i+1,h1,h2=>by
  let j:=aeb (i:=i) h1 h2;clear h1 h2;cases v with
  |ref b=>
   cases x with
   |m _ _ _=>show dj _ j
   |d _=>show j
  |_=>show j
def aqa:∀{vs}{as}{i j:ai},((CQ vs as).map (·.1)).Nodup->vs[i]?=aa (.ref a)->vs[j]?=aa (.ref a)->as[i]?=aa (.m c ns l)->as[j]?=aa (.m c' ns' l')->i=j
 |[],_,_,_,_,h,_,_,_=>nn h
 |_::_,[],_,_,_,_,_,h,_=>nn h
 |v::vs,x::as,0,0,_,_,_,_,_=>rfl
 |v::vs,x::as,0,j+1,nd,h1,h2,q,W=>by cases h1;cases q;let nd:(((a,c)::CQ vs as).map _).Nodup:=nd;rw[b9,gd]at nd;show cj (qp (aeb (i:=j) h2 W)) nd.1
 |v::vs,x::as,i+1,0,nd,h1,h2,q,W=>by cases h2;cases W;let nd:(((a,c')::CQ vs as).map _).Nodup:=nd;rw[b9,gd]at nd;show cj (qp (aeb (i:=i) h1 q)) nd.1
 |v::vs,x::as,i+1,j+1,nd,h1,h2,q,W=>by
  let nd':=by
   cases v with
   |ref b=>
    cases x with
    |m _ _ _=>show(gd.mp nd).2
    |d _=>show nd
   |_=>show nd
  rw[aqa nd' h1 h2 q W]
def ahf:∀{ps}{vs}{i:ai},ps.Nodup->ps[i]?=aa x->vs[i]?=aa (.ref a)->LG ps vs x=a
 |[],_,_,_,h,_=>yT
 |_::_,[],_,_,_,h=>yT
 |p::ps,v::vs,0,nd,h1,h2=>by injection h1 with h1;subst h1;cases h2;change ite _ _ _=_;simp
 |p::ps,v::vs,i+1,nd,h1,h2=>by
  rw[gd]at nd;let j:=h1;let q:=ahf nd.2 j h2;cases v with
  |ref b=>change(if p=x then b else LG ps vs x)=a;rw[ao (λz=>nd.1 (by erw[z,QL j]))];omega
  |_=>show q
def slot_of:∀{N}{x}{i},N.Nodup->N[i]?=aa x->slot N x=aa i
 |[],_,_,_,h=>yT
 |y::N,x,0,_,h=>by cases h;delta slot;simp
 |y::N,x,i+1,nd,h=>by rw[gd]at nd;let h':=h;delta slot;rw[ao (λz=>nd.1 (by erw[z,QL h'])),slot_of nd.2 h'];rfl
def a5q{K}{ad:Str->Addr}{ps}{vs}{as}(W:b6 (vp K cls O H) vs as)(h:as.length=ps.length)(k:∀(i:ai)x a,ps[i]?=aa x->vs[i]?=aa (V.ref a)->(∃c ns l,as[i]?=aa (AD.m c ns l))->ad x=a):b6 (λp q=>p.1=ad q.1/\p.2=q.2) (CQ vs as) ((startM ps as).map xc):=by
 induction W generalizing ps with
 |nil=>cases ps<;>first|show .nil
 |@cons v _ _ _ r _ I=>
  cases ps with
  |nil=>trivial
  |cons x ps=>
  let j:=I (by simpa using h) λi y a h1 h2 h3=>k (i+1) y a h1 h2 h3;cases r with
  |m g1 g2 g3 g4=>show .cons ⟨(k 0 x _ rfl rfl ⟨_,_,_,rfl⟩).symm,rfl⟩ j
  |d g=>cases v<;>show j
def aqb{K}{cls}{O}{H}{ad:Str->Addr}:∀{ps}{j:ab dh},b6 (λp q=>p.1=ad q.1/\p.2=q.2) ps (j.map xc)->(∀m∈j,∃dx fs,H (ad m.x)=aa (.ins (cls m.c) dx fs)/\fs.map (·.1)=m.ns/\AJ K cls (rs O H) (fs.map (·.2)) m.l)->SK K cls O H ps (j.map nl)
 |[],[],.nil,_=>.nil
 |p::ps,m::j,h,k=>by
  cases h with
  |cons r t=>show b7 (k m (d7 ..)) λdx fs h1 h2 h3=>.cons (dq dx fs ?_ h2 h3) (aqb t λm' W=>k m' (dj _ W));erw[r.1,r.2,h1]
 |[],_::_,h,_=>yT
 |_::_,[],h,_=>yT
section
variable{P:de}{w:c9}{K:ba}{J:Str->ah a6}{B:Heap}
structure TE(Γ:Ctx)(C:MC)(P:de)(w:c9)(K:ba)(J:Str->ah a6)(B:Heap):Prop where
 w9:∀x g,C.w9 x=aa g->CA P w K J B Γ.cls x Γ.k g
 I0:∀c m g,C.I0 c m=aa g->F6 P w K J B Γ.cls c m Γ.k g
def aec{st}(F:pj K x qual st f fd)(S:iz N ps (AO st))(T:TX Γ P w K J B)(E:TE Γ C P w K J B)(hN:Γ.N=N)(n):
 g8 P w K J B ig (Γ.k+1) f fd ps (LC K Γ.cls (GN Γ C (AO st) n ps (BC st))):=by
 subst hN;show F.ok S (λvs H Q E hs=>?_) (λcdv A outer s H vs Q E' hr hs=>?_)
 .let⟨O,as,fin,hO,ar,nd,hg,q⟩:=hs;delta GN at hg;k_lt hg;.ext hl;erw[ar.len,hl]
  .show nn hg
 .let⟨O,as,fin,hO,ar,nd,hg,q⟩:=hs;delta GN at hg;k_lt hg
  .ext hlen;let⟨out,hden,hfin⟩:=bo hg;subst hfin;let hpl:ps.length<=Γ.N.length:=by let:=eh wa S.pre;rw[UU]at this;lia
   let psnd:ps.Nodup:=by erw[<-S.pre,bi6 (bgu _ _) S.nd]
   let hNi:∀i y,ps[i]?=aa y->Γ.N[i]?=aa y:=λi y h=>by
    rw[<-S.pre,List.getElem?_take]at h;k_lt h;.show h
    .show nn h
   generalize hΓ:({Γ with ad:=LG ps vs}:Ctx)=W;let ecls:W.cls=Γ.cls:=by subst hΓ;rfl
   let eN:W.N=Γ.N:=by subst hΓ;rfl
   let ead:W.ad=LG ps vs:=by subst hΓ;rfl
   let G:GX W (EM ig P w K J B Γ.N qual (AO st) f cdv A outer s H E').nj ae (AO st):=by subst hΓ;show⟨rfl,S.nd,rfl,hr,?_,λx hx=>zx hx,λx hx=>vo hx,λζ=>rfl,T.DZ,T.eg,T.gq,T.gu,T.pw⟩;.let:=hr.un;change(A.deeper _).units+1+64<jj;lia
   let GE':GE W C (EM ig P w K J B Γ.N qual (AO st) f cdv A outer s H E').nj:=by subst hΓ;show⟨E.w9,E.I0⟩
   let hden':E5 W C (AO st) n (startM ps as) (SW Γ.N as) (BC st) (λμ ζ=>aa (μ,.bj))=aa out:=by rw[ap9 W C (AO st) n,<-hden];subst hΓ;rfl
   let hv0:∀i:ai,(L2.start Γ.N vs)[i]?=(vs.map aa++ZC _ af)[i]?:=λi=>rfl;let hvi:∀(i:ai)v,vs[i]?=aa v->_[i]?=aa (aa v):=λi v h=>by rw[hv0,UW (by erw[bt,(x9.mp h).1]),i9,h];rfl
   let mobAt:∀m∈startM ps as,∃(i:ai)(a dx:Addr)(fs:ab (Str×V)),ps[i]?=aa m.x/\vs[i]?=aa (V.ref a)/\as[i]?=aa _/\O a=ae/\H a=aa _/\fs.map (·.1)=m.ns/\AJ K Γ.cls (rs O H) (fs.map (·.2)) m.l:=λm hm=>by
    show QY λz=>au (ahd hm) λi h1 h2=>?_;let⟨v,h3,h4⟩:=ar.get h2;cases h4 with
    |m g1 g2 g3 g4=>apply z.f;show ng i _ _ _ h1 h3 h2 g1 g2 g3 g4
   let fin_:∀v H',SV W K O (rs (λb=>decide (b∈(CQ vs as).map (·.1))) H) H' out.1->Dr K Γ.cls (rs O H') v out.2->Q v H':=λv H' hf dv=>by
    show q v H' (λb o hb e=>hf.1 b o ?_) (aqb (ad:=W.ad) ?_ ?_) dv;.delta rs;erw[ao (by erw[ym,hb]),e]
    .erw[(a5o n (startM ps as) _ _ _ out hden' (λμ' ξ' h1 h2=>by cases h1;show h2) rfl),a5q ar hlen λi y a h1 h2 h3=>?_];erw[ead,ahf psnd h1 h2]
    .intro m hm;let:=hf.2 m hm;rw[ecls]at this;show this
   show ap _ (ma _ _) (a5m G GE' S.kind (λζ=>rfl) yk n (startM ps as) _ (BC st) _ out hden' (bi6 (ahe ps as) psnd) O (rs (λb=>decide (b∈(CQ vs as).map (·.1))) H) O _ H _ ?_ ?_ (λμ' ξ' O' σ' H' h1 ζ e' ζ=>?_) (λv H' hf dv=>?_))
   .show⟨hO,λζ h=>h,λζ h=>.inl h,cq _ _,λi d hi=>?_,⟨λζ ζ=>ag,λi s hi hs=>?_,λi b hb=>NE hb,λi j b hb=>NE hb⟩,λm hm=>?_,λm h1 m' h2 i j a q1 q2 q3 q4=>?_,λm hm i hi=>?_⟩
    .delta SW at hi;rw[QV]at hi;k_lt hi;.rw[i9]at hi;let⟨y,h1,h2⟩:=bo hi;cases y with
      |m _ _ _=>cases h2
      |d y=>
       cases h2;let⟨v,h3,h4⟩:=ar.get h1;cases h4 with
       |d g=>show⟨v,hvi i v h3,by erw[show(wm W (startM ps as)).cls=Γ.cls from ecls,g]⟩
     .rw[MT]at hi;k_lt hi;.cases hi
      .show nn hi
    .exfalso;delta SW at hi;rw[QV]at hi;k_lt hi;.rw[i9]at hi;let⟨y,h1,h2⟩:=bo hi;subst h2;cases y<;>cases hs
     .rw[MT]at hi;k_lt hi;.cases hi;show nb hs
      .show nn hi
    .show QY λz3=>lh (mobAt m hm) λi a dx fs h1 h2 h3 h4 h5 h6 h7=>?_;apply z3.f;show ng i a dx fs ?_ (hvi i _ h2) h4 ?_ ?_ h6 ?_;.change slot W.N m.x=aa i;erw[eN,slot_of S.nd (hNi i _ h1)]
     .delta rs;rw[aj (gm (qp (f:=(·.1)) (aeb h2 h3)))]
     .change H a=aa (.ins (W.cls m.c) dx fs);erw[ecls,h5]
     .change AJ K W.cls _ _ _;erw[ecls,h7]
    .show QY λz2=>rl (mobAt m h1) λi' a1 _ _ g1 g2 g3 _=>rl (mobAt m' h2) λj' a2 _ _ k1 k2 k3 _=>?_;apply z2.f;let e1:slot W.N m.x=aa i':=by erw[eN,slot_of S.nd (hNi i' _ g1)]
     let e2:slot W.N m'.x=aa j':=by erw[eN,slot_of S.nd (hNi j' _ k1)]
     let q1':slot W.N m.x=aa i:=q1;let q2':slot W.N m'.x=aa j:=q2;rw[e1]at q1';cases q1';rw[e2]at q2';cases q2';rw[hvi _ _ g2]at q3;cases q3;rw[hvi _ _ k2]at q4;cases q4;show aqa nd g2 k2 g3 k3
    .show QY λz0=>rl (mobAt m hm) λi' a1 _ _ g1 g2 g3 _=>?_;apply z0.f;let e1:slot W.N m.x=aa i':=by erw[eN,slot_of S.nd (hNi i' _ g1)]
     let hi':slot W.N m.x=aa i:=hi;rw[e1]at hi';cases hi';rw[hvi _ _ g2];change _=aa (aa (V.ref (W.ad m.x)));rw[ead,ahf psnd g1 g2]
   .delta L2.start;rw[e9,bt,avc,eN,ar.len,hlen];lia
   .cases h1;show fin_ .bj H' e'.fin (by show .bj)
   .rw[ecls]at dv;show fin_ v H' hf dv
  .show nn hg
end
noncomputable def AD.toD:AD->D
 |.m c ns l=>.obj c ns l
 |.d x=>x
def AD.DZ:ab AD->ab (ab Str×ab D)
 |[]=>[]
 |.m _ ns l::as=>(ns,l)::AD.DZ as
 |.d _::as=>AD.DZ as
def XU:D->a4
 |.lst l=>(intsOf l).isSome
 |_=>ag
def DM(g:ab D->ah D):eu:=λas=>(g (as.map AD.toD)).bind λr=>if XU r then aa (AD.DZ as,r)else af
section
variable{P:de}{w:c9}{K:ba}{B:Str->ah a6}{A:Heap}{cls:Str->Addr}
def AA6(P:de)(w:c9)(K:ba)(B:Str->ah a6)(A:Heap)(cls:Str->Addr)(x:Str)(k:ai)(g:ab D->ah D):Prop:=
 ∃f fd ps,B x=aa (.ref f)/\og K (.ref f)=ae/\Binds K fd ps []/\g8 P w K B A ig k f fd ps (XB K cls g)
def aqc:∀{ns:ab ak}{vs}{H'},AJ K cls H vs (ns.map D.int)->AJ K cls H' vs (ns.map D.int)
 |[],_,_,h=>by cases h;rfl
 |n::ns,_,_,h=>by show b7 h λ_ _ j h1 h2=>?_;subst j;cases h1;show .cons (.int n) (aqc h2)
def a5r{H}{vs}{as}(W:b6 (vp K cls O H) vs as)(h:∀p∈CQ vs as,j p.1=ag)(q:AH (rs O H) (rs j H)):AJ K cls (rs j H) vs (as.map AD.toD):=by
 induction W with
 |nil=>show .nil
 |@cons v _ _ _ r _ i=>
  cases r with
  |@m a dx fs c ns l g1 g2 g3 g4=>show .cons (.obj (dx:=dx) ?_ g3 (g4.up q)) (i λp hp=>h p (dj _ hp));let:=h _ (d7 ..);grind[rs]
  |d g=>show .cons (g.up q) (i λp hp=>h p ?_);clear g h;cases v<;>show hp
def a5s(s:AH H H'){vs}{as}(h:b6 (vp K cls O H) vs as):SK K cls O H' (CQ vs as) (AD.DZ as):=by
 induction h with
 |nil=>show .nil
 |@cons v _ _ _ r _ i=>
  cases r with
  |m g1 g2 j q=>show .cons (dq _ _ (s _ _ g2) j (q.up (AH.rs O s))) i
  |d g=>cases v<;>show i
def a5t{vs}{as}(j:b6 (vp K cls O H) vs as):∀p∈CQ vs as,∃dx fs,H p.1=aa (.ins (cls p.2) dx fs):=by
 induction j with
 |nil=>nofun
 |@cons v _ _ _ r _ i=>
  intro p h;cases r with
  |m g1 g2 q W=>
   obtain rfl|h:=df.mp h;.show m9 _ _ g2
   .show i p h
  |d g=>cases v<;>show i p h
def xa(h:AA6 P w K B A cls x k g):CA P w K B A cls x k (DM g):=by
 show fh h λf fd ps h1 h2 h3 h4=>o7 f fd ps h1 h2 h3 (h4.imp λvs H Q E hs=>?_);let⟨O,as,fin,hO,ar,nd,hg,q⟩:=hs;let⟨r,hr,hg⟩:=ay hg;k_lt hg
 .ext hfl;injection hg with hg;subst hg;let hsub:∀b,(O b&&!decide (b∈(CQ vs as).map (·.1)))=ae->O b=true:=λb hb=>by rw[cg]at hb;show hb.1
  show⟨λb=>O b&&!decide _,as.map AD.toD,r,λb hb=>hO b (hsub b hb),a5r ar (λp hp=>?_) (ab7 hsub),hr,λv H' s' dv=>?_⟩;.rw[gm (qp hp),ajq,kr]
  .show q v H' (λb o ζ e=>s' _ _ e) (a5s s' ar) ?_;delta XU at hfl;k_lt hfl
   .let⟨ns,hns⟩:=MS.mp hfl;let e:=aga hns;clear hfl hg hns hr;subst e;show b7 dv λ_ _ zq6_1 g1 g2=>?_;clear dv;subst zq6_1;show .lst ?_ (aqc g2);let g1':=cq _ _ _ _ g1;ext b xs;delta rs at g1⊢;by_cases hb:O b=ae
    .exfalso;by_cases hm:b∈(CQ vs as).map (·.1);.clear g1 hb;let⟨p,hp,rfl⟩:=gx.mp hm;let⟨dx,fs,hi⟩:=a5t ar p hp;rw[s' _ _ hi]at g1';cases g1'
     .rw[aj (by change(O b&&!decide _)=ae;rw[hb,gi hm];rfl)]at g1;trivial
    .erw[ao hb,g1']
   .trivial
 .trivial
def CA.mono(h:CA P w K B A cls x j g)(e:j<=k:=by lia):CA P w K B A cls x k g:=fh h λf fd ps h1 h2 q W=>o7 f fd ps h1 h2 q (W.mono e)
def F6.mono(h:F6 P w K B A cls c m j g)(e:j<=k:=by lia):F6 P w K B A cls c m k g:=xA h λW q=>kj q λf fd ps h1 h3 h4=>⟨W,f,fd,ps,h1,h3,h4.mono e⟩
def FJ:ab (Str×eu)->Str->ah eu
 |[],_=>af
 |y::r,x=>if x=y.1 then aa y.2 else FJ r x
def E6:ab (Str×Str×eu)->Str->Str->ah eu
 |[],_,_=>af
 |y::r,c,m=>if c=y.1 then(if m=y.2.1 then aa y.2.2 else E6 r c m)else E6 r c m
def LH(P:de)(w:c9)(K:ba)(B:Str->ah a6)(A:Heap)(cls:Str->Addr)(k:ai):ab (Str×eu)->Prop
 |[]=>True
 |y::r=>CA P w K B A cls y.1 k y.2/\LH P w K B A cls k r
def LI(P:de)(w:c9)(K:ba)(B:Str->ah a6)(A:Heap)(cls:Str->Addr)(k:ai):ab (Str×Str×eu)->Prop
 |[]=>True
 |y::r=>F6 P w K B A cls y.1 y.2.1 k y.2.2/\LI P w K B A cls k r
def LH.get:∀{fs},LH P w K B A cls k fs->∀{x g},FJ fs x=aa g->CA P w K B A cls x k g:=by
 intro fs;induction fs with
 |nil=>intro _ _ _ h;trivial
 |cons y r I=>
  intro ha x g h;delta FJ at h;k_lt h;.ext e;injection h with h;subst h;subst e;show ha.1
  .show I ha.2 h
def LI.get:∀{fs},LI P w K B A cls k fs->∀{c m g},E6 fs c m=aa g->F6 P w K B A cls c m k g:=by
 intro fs;induction fs with
 |nil=>intro _ _ _ _ h;injection h
 |cons y r I=>
  intro ha c m g h;delta E6 at h;k_lt h
  .ext e;k_lt h;.ext j;injection h with h;subst h;subst e j;show ha.1
   .show I ha.2 h
  .show I ha.2 h
def a5u{st}(W:G9 K B x st ps)(S:iz N ps (AO st))
 (hf:EU P w K B A cls k fs)(hc:EV K B cls cs)(he:LH P w K B A cls k es)(hm:LI P w K B A cls k ms)(j:∀c f,(c,f)∈fl->fy K (cls c)/\BG K (cls c) f)(hb:∀x∈GI,B x=af):
 CA P w K B A cls x (k+1) (GN {N:=N,cls:=λζ=>0,k:=0,fields:=fl,eg:=DI fs,gq:=DJ cs} ⟨FJ es,E6 ms⟩ (AO st) n ps (BC st)):=by show QY λz=>fg W λf fd F h1 h2 h3=>?_;apply z.f;show o7 f fd ps h1 h2 h3 (aec (Γ:={N:=N,cls:=cls,k:=k,fields:=fl,eg:=DI fs,gq:=DJ cs,pw:=aa (P,w)}) F S ⟨j,λy q h'=>hf.get h',λy d h'=>hc.get h',hb,rfl⟩ ⟨λy q h'=>he.get h',λc m q h'=>hm.get h'⟩ rfl n)
def ID(K:ba)(C:Addr)(c m:Str)(st:Stmt)(ps:ab Str):Prop:=fy K C/\∃f fd,pj K m (c++"."++m) st f fd/\Meth K C m f/\Binds K fd ps []
def ahg{st}{N ps}{fs}{cs}{fl}{es}{ms}{k n}(W:ID K (cls c) c m st ps)(S:iz N ps (AO st))
 (hf:EU P w K B A cls k fs)(hc:EV K B cls cs)(he:LH P w K B A cls k es)(hm:LI P w K B A cls k ms)(j:∀c f,(c,f)∈fl->fy K (cls c)/\BG K (cls c) f)(hb:∀x∈GI,B x=af):
 F6 P w K B A cls c m (k+1) (GN {N:=N,cls:=λζ=>0,k:=0,fields:=fl,eg:=DI fs,gq:=DJ cs} ⟨FJ es,E6 ms⟩ (AO st) n ps (BC st)):=by show QY λz=>j6 W λh0 f fd F h1 h3=>?_;apply z.f;show⟨h0,f,fd,ps,h1,h3,aec (Γ:={N:=N,cls:=cls,k:=k,fields:=fl,eg:=DI fs,gq:=DJ cs,pw:=aa (P,w)}) F S ⟨j,λy q h'=>hf.get h',λy d h'=>hc.get h',hb,rfl⟩ ⟨λy q h'=>he.get h',λc m q h'=>hm.get h'⟩ rfl n⟩
def a5v{c}{f}{fd}{ps}{k}{g}{g'}(hC:cls c=C)(F:g8 P w K B A ig k f fd ps (LC K cls g))
 (hg:∀ds r,g' ds=aa r->∃ns l,r=.obj c ns l/\g (.m c [] []::ds.map AD.d)=aa ([(ns,l)],.bj)):g8 P w K B A ig k f fd ps (RY K cls C g'):=by
 subst hC;show F.imp λvs H Q E hs=>QY λzz=>?_;let⟨O,ds,r,x,dx,W,rfl,hx,hOx,hO,hd,hgr,q⟩:=hs;let⟨ns,l,rfl,hg2⟩:=hg ds r hgr;let args:∀{W:ab V}{ds:ab D},AJ K cls (rs O H) W ds->b6 (vp K cls O H) W (ds.map AD.d)/\CQ W (ds.map AD.d)=[]:=by
  intro W ds h;induction ds generalizing W with
  |nil=>cases h;show⟨.nil,rfl⟩
  |cons d ds ih=>show b7 h λ_ _ j h1 h2=>?_;clear h;subst j;let⟨k1,k2⟩:=ih h2;ext v vs;show⟨.cons (.d h1) k1,?_⟩;cases v<;>show k2
 let⟨k1,k2⟩:=args hd;let hm:CQ (V.ref x::W) (.m c [] []::ds.map AD.d)=[(x,c)]:=by change(x,c)::CQ W _=_;rw[k2]
 apply zz.f;show⟨O,.m c [] []::ds.map AD.d,_,hO,.cons (.m hOx hx rfl .nil) k1,yA,hg2,λv H' hH hf dv=>?_⟩;rwa[hm]at hH hf;cases hf with
 |cons hf _=>
  show b7 hf λdx' fs' f1 f2 f3=>?_;cases dv;show q H' (λb o hb e=>hH b o (λz=>hb (fq.mp z)) e) (.obj (dx:=dx') ?_ f2 (f3.up (ab7 λb hb=>?_)));.delta rs;lia
  lia
end
section
variable{P:de}{w:c9}{K:ba}{B:Str->ah a6}{A:Heap}{cls:Str->Addr}
def FN(K:ba)(B:Str->ah a6)(C:Addr)(c:Str)(st:Stmt)(ps:ab Str):Prop:=B c=aa (.ref C)/\∃f fd,pj K "__init__" (c++".__init__") st f fd/\Mk K C f/\Binds K fd ps []
def a5x{st}{N ps}{fs}{cs}{fl}{k n}{g}(W:FN K B (cls c) c st ps)(S:iz N ps (AO st))
 (hf:EU P w K B A cls k fs)(hc:EV K B cls cs)(j:∀c f,(c,f)∈fl->fy K (cls c)/\BG K (cls c) f)(hb:∀x∈GI,B x=af)
 (hg:∀ds r,g ds=aa r->∃ns l,r=.obj c ns l/\GN {N:=N,cls:=λζ=>0,k:=0,fields:=fl,eg:=DI fs,gq:=DJ cs} ⟨FJ [],E6 []⟩ (AO st) n ps (BC st) (.m c [] []::ds.map AD.d)=aa ([(ns,l)],.bj)):AW P w K B A cls c (k+2) g:=by show j6 W λh0 f fd F h1 h3=>.inr ⟨cls c,f,fd,ps,k+1,h0,h1,h3,b8 _,(a5v rfl (aec (Γ:={N:=N,cls:=cls,k:=k,fields:=fl,eg:=DI fs,gq:=DJ cs,pw:=aa (P,w)}) (C:=⟨FJ [],E6 []⟩) F S ⟨j,λy q h'=>hf.get h',λy d h'=>hc.get h',hb,rfl⟩ ⟨(λy q h'=>nomatch h'),(λc m q h'=>nomatch h')⟩ rfl n) hg)⟩
end
def F8:(Key->a4)->ai->ab Key->ai
 |_,n,[]=>n
 |S,n,k::r=>F8 (λj=>S j||decide (j=k)) (if S k then n else n+1) r
def ahh:∀(l)(S)(n),F8 S n l<=n+l.length
 |[],_,n=>b8 _
 |k::r,S,n=>by let:=ahh r (λj=>S j||decide (j=k)) (if S k then n else n+1);simp[d6];show jh this ?_;split<;>lia
section
variable{P:de}{w:c9}{A:jg}{R:Result->cu->Prop}{I:Addr}{H C:ab Addr}{G:yf GenState->yf GenState->Prop}{n:ai}{U:ai->a6->Prop}{B:ai->cu->Prop}
def a5y(h:D4 k v=ae):v.scannable=true:=by obtain⟨i,t,rfl,rfl⟩|⟨x,t,rfl,rfl⟩:=o8 h<;>rfl
def a5z(W:WalksS P w A.in1 I H C G n U B)(T)(hT:T∉H):
 ∀(ks)(i m)(S)(s),i+ks.length=n->m+ks.length+1<yn->(∀j k v,ks[j]?=aa k->U (i+j) v->D4 k v=ae)->B i s->s.heap.SetOf (B8 P w) T S m->
  (∀s' S',Moved (T::C) G s s'->s'.heap.SetOf (B8 P w) T S' (F8 S m ks)->R (.ok (.ret .none)) s')->
  v7 (az P w) A (.builtin "set.update.loop" ⟨[.ref T,.ref I],[]⟩) R s:=by
 intro ks;induction ks with
 |nil=>intro i m S s hn hb hU st hS q;let e:i=n:=hn;subst e;show awv bi7 ?_;show aq (m:=qg (.ref I)) (W.done s _ _ st λs' mv=>QY λzz=>iy hS λob x1 zq2_1=>jd zq2_1 λx2 x3 x4 x5=>?_);apply zz.f;show b4 (q s' S (mv.mono λb hb=>.tail _ hb) ⟨ob,x1,x2,x3,mv.heap T _ (λz=>hT (W.sub _ z)) x4,x5⟩)
 |cons k ks ih=>
  intro i m S s hn hb hU st hS q;rwa[d6]at hn hb;show awv bi7 ?_;erw[Around.under_plainId bi8 _,aq (m:=qg (.ref I)) (W.item i s _ _ yL st λv s' hv st' mv=>?_)];let hk:D4 k v=true:=hU 0 k v rfl hv;let hS1:s'.heap.SetOf (B8 P w) T S m:=by show iy hS λob x1 zq1_1=>jd zq1_1 λx2 x3 x4 x5=>⟨ob,x1,x2,x3,mv.heap T _ (λz=>hT (W.sub _ z)) x4,x5⟩
  show aq (QM ?_);delta setAdd;show QM (aq ((B8 P w).pyHash (k:=k) hk (wpAny_setAddHashed_of (knd:=B8 P w) (s:={s' with toks:=s'.toks+1}) hk (a5y hk) hS1 yL λh2 sb hS2=>b4 ⟨plainId_quiet bi8 _,ih (i+1) _ _ _ yL (by split<;>lia) (λj k' v' e u=>hU (j+1) k' v' e (by erw[show i+(j+1)=i+1+j from yL,u])) (W.frame _ s' _ _ st' (UT _) λb hb o e=>?_) hS2 λs3 S3 mv3 hS3=>?_⟩)));.erw[sb.2 b (λz=>hT (z▸hb)),e]
  .show q s3 S3 (Moved.trans W.gtrans ((mv.mono λb hb=>.tail _ hb).then_heap (UT _) λb o hb e=>?_) mv3) hS3;erw[sb.2 b (λz=>hb (z▸ .head _)),e]
end
section
variable{P:de}{w:c9}{A:jg}{E:a6->cu->Prop}{s:cu}
def EX(j:a4):Obj:={cls:=.type "set",dict:=af,data:=.set #[] 0 (.fresh 0 0 j)}
def SX(P:de)(w:c9)(s:cu)(m:ai)(Q:a6->cu->Prop):Prop:=
 ∀h' tk S,h'.SetOf (B8 P w) s.heap.objs.size S m->(∀b o,b<s.heap.objs.size->s.heap.get? b=aa o->h'.get? b=aa o)->Q (.ref s.heap.objs.size) {s with heap:=h',toks:=tk}
def b6.aqd{R}:∀{as}{bs}{i:ai}{a:j}{b:q},b6 R as bs->as[i]?=aa a->bs[i]?=aa b->R a b
 |_,_,_,_,_,.nil,h,_=>yT
 |_,_,0,_,_,.cons r _,h,h'=>yA
 |_,_,i+1,_,_,.cons _ t,h,h'=>b6.aqd t (by simpa using h) yT
def set_tail{l:Addr}{us:yf a6}{ks}{led}{io}{B}{Q}{R}(lt:l<s.heap.objs.size)
 (W:Walks P w A.in1 (s.heap.push (EX led)).objs.size [(s.heap.push (EX led)).objs.size,l] [(s.heap.push (EX led)).objs.size] us.size (λi v=>us[i]?=aa v) B)
 (st:B 0 ((s.heap.push (EX led)).push io))(hk:b6 (λu k=>D4 k u=ae) us.toList ks)(hb:ks.length+1<yn)(q:SX P w s (F8 (λζ=>ag) 0 ks) Q)(hR:∀s',Q (.ref s.heap.objs.size) s'->R (.ok (.ret .none)) s'):
 v7 (az P w) A (.builtin "set.update.loop" ⟨[.ref s.heap.objs.size,.ref (s.heap.push (EX led)).objs.size],[]⟩) R {s with heap:=(s.heap.push (EX led)).push io}:=by
 let sz:(s.heap.push (EX led)).objs.size=s.heap.objs.size+1:=jz ..;let len:us.size=ks.length:=hk.len;show a5z W.toS s.heap.objs.size (λz=>?_) ks 0 0 (λζ=>ag) _ yL yL (λj k v e u=>?_) st ⟨_,#[],0,.fresh 0 0 led,(dg _ (f7 _ rfl)),⟨rfl,rfl,rfl⟩,rfl,(λe he=>yT),(λk=>⟨λh=>yT,λzz=>yA⟩),yD,by rfl,rfl⟩ λs' S' mv hS'=>hR s' ?_;.walk
 .show hk.aqd yA e
 .let⟨hp,a,b,c,d⟩:=s';obtain rfl:a=s.gens:=mv.gens;obtain rfl:b=s.drawn:=mv.drawn;obtain rfl:d=s.os:=mv.os;show q hp c S' hS' λb o hlt e=>mv.heap b o (λz=>?_) (dg _ (dg _ e));grind
def aqe{Q}(hi:∀led:a4,ax (az P w) A.in1.in1 (Builtin.«set.__init__» ⟨[.ref s.heap.objs.size,a],[]⟩)
 (λfin s'=>match fin with|.done f=>wants (λr s2=>r=.none/\Q (.ref s.heap.objs.size) s2) E (.ok f) s'|.again c'=>c'.quiet=ae/\v7 (az P w) A.in1 c' (wants (λr s2=>r=.none/\Q (.ref s.heap.objs.size) s2) E) s')
 (λe s'=>wants (λr s2=>r=.none/\Q (.ref s.heap.objs.size) s2) E (.error e) s') {s with heap:=s.heap.push (EX led)}):ax (az P w) A (call (.type "set") [a]) Q E s:=by
 let ft:=F.called_set;show iy ft.mro λx1 x2 x3=>?_;let x4:=ft.made;let x5:=ft.sub;let x6:=ft.notType;let x7:=ft.canCreate;let x8:=F.typeCall_set_1 a;show au8 (codeAny_of_tree ?_);change ax _ _ (callAny (.type "set") ⟨[a],[]⟩) _ _ _;show b4 ⟨Code.quiet_builtin _ (by decide+kernel),awv F.entry_type_call ?_⟩;rw[Around.under_plain (weight_type_call_type _ [a] []) rfl];repeat(any_goals(first|assumption|wp_step))
 show QK (code_set_new_1 a (E:=E) (Q₁:=λob t=>∃led:a4,ob=.ref s.heap.objs.size/\t={s with heap:=s.heap.push (EX led)}) λled=>(ap led rfl rfl)) λr t hr=>?_;match r,hr with
 |.error _,hr=>show hr
 |.ok .next,hr=>show hr.elim
 |.ok .brk,hr=>show hr.elim
 |.ok .cont,hr=>show hr.elim
 |.ok (.ret ob),hr=>
  show au hr λled zq5_1 zq5_2=>?_;clear hr;subst zq5_1;subst zq5_2;let tI:bi3 {s with heap:=s.heap.push (EX led)} (.ref s.heap.objs.size) "set":=(ap _ (f7 _ rfl) rfl);let y1:=ft.init.lookup;let y2:=ft.init.bind (.ref s.heap.objs.size);repeat(any_goals(first|assumption|wp_step))
  show QK (codeAny_call_builtin ft.init.plain F.entry_set_init (check_set_init_1 tI (hi led))) λr2 t2 hr2=>?_;match r2,hr2 with
  |.error _,hr2=>show hr2
  |.ok .next,hr2=>show hr2.elim
  |.ok .brk,hr2=>show hr2.elim
  |.ok .cont,hr2=>show hr2.elim
  |.ok (.ret ob2),hr2=>let⟨rfl,hq⟩:=hr2;repeat(any_goals(first|assumption|wp_step))
def a50(hh:A.handled=af)(hl:s.heap.IsList l us)(hk:b6 (λu k=>D4 k u=ae) us.toList ks)(hb:ks.length+1<yn)
 (q:SX P w s (F8 (λζ=>ag) 0 ks) Q):ax (az P w) A (call (.type "set") [.ref l]) Q E s:=by show aqe λled=>QY λz=>j7 hl λzq10_1 e0 e1 nn e2=>?_;let⟨oc,od,odat,osl⟩:=zq10_1;simp only at e1 e2;subst e1 e2;let lt:=ec e0;let e0':(s.heap.push (EX led)).get? l=aa ⟨.type "list",od,.seq us nn,osl⟩:=dg _ e0;let l1:(s.heap.push (EX led)).IsList l us:=(lx _ e0' rfl nn rfl);let f1:=F.sub_list_set;let f2:=F.sub_list_frozenset;let f3:(UI "list"==UI "dict")=false:=yD;apply z.f;unfold Builtin.«set.__init__» noKeywords bi9;generalize hit:yc=it;wp_walk;subst hit;show Y6 l1 (aq (bja (set_tail lt (avr yT _ l (by erw[jz,g9 (JV lt)]) us) ⟨(et _ (f7 _ rfl) rfl rfl),l1.push _⟩ hk hb q λs' h=>b4 (b4 ⟨rfl,h⟩))))
def a51(hh:A.handled=af)(hl:s.heap.IsTuple l us)(hk:b6 (λu k=>D4 k u=ae) us.toList ks)(hb:ks.length+1<yn)
 (q:SX P w s (F8 (λζ=>ag) 0 ks) Q):ax (az P w) A (call (.type "set") [.ref l]) Q E s:=by show aqe λled=>QY λz=>j7 hl λzq13_1 e0 e1 nn e2=>?_;let⟨oc,od,odat,osl⟩:=zq13_1;simp only at e1 e2;subst e1 e2;let lt:=ec e0;let e0':(s.heap.push (EX led)).get? l=aa ⟨.type "tuple",od,.seq us nn,osl⟩:=dg _ e0;let l1:(s.heap.push (EX led)).IsTuple l us:=(lx _ e0' rfl nn rfl);let f1:=F.sub_tuple_set;let f2:=F.sub_tuple_frozenset;let f3:(UI "tuple"==UI "dict")=false:=yD;apply z.f;unfold Builtin.«set.__init__» noKeywords bi9;generalize hit:yc=it;wp_walk;subst hit;show UN l1 (aq (bja (set_tail lt (Walks.tuple yT _ l (by erw[jz,g9 (JV lt)]) us) ⟨(et _ (f7 _ rfl) rfl rfl),l1.push _⟩ hk hb q λs' h=>b4 (b4 ⟨rfl,h⟩))))
end
end DL
namespace CK
open PySem PySem.Spec PyProof.Rows L2 DL
abbrev Tr:=Vadtta.Tree
abbrev Bytes:=Vadtta.Bytes
open Classical in
def S(w:Bytes):Str:=⟨(w.map uz).toArray⟩
def vq(h:S a=S b):a=b:=by
 let e:=by let:=eh (λs=>s.cps.toList) h;omega
 let j:∀(a b:Bytes),a.map uz=b.map uz->a=b:=by
  intro a;induction a with
  |nil=>simp
  |cons x r q=>
   intro b h;cases b with
   |nil=>trivial
   |cons y t=>injection h with h1 h2;rw[q t h2,ajr.mp h1]
 show j a b e
def aed(a b):decide (S a=S b)=(a==b):=by rw[oj];simp[qh];show⟨vq,λh=>by rw[h]⟩
mutual
def AE:Tr->D
 |.num n=>.int n
 |.word w=>.str (S w)
 |.list l=>.tup (AV l)
def AV:ab Tr->ab D
 |[]=>[]
 |t::l=>AE t::AV l
end
def nv(l):AV l=l.map AE:=by
 induction l with
 |nil=>rfl
 |cons a r j=>simp_all[AV]
def aee(l):(AV l).length=l.length:=by rw[nv,bt]
mutual
def BE:Tr->ai
 |.num _=>0
 |.word _=>0
 |.list l=>CY l+1
def CY:ab Tr->ai
 |[]=>0
 |t::l=>max (BE t) (CY l)
end
def aqf(h:t∈l):BE t<=CY l:=by
 induction l with
 |nil=>walk
 |cons a r j=>grind[CY]
def BB(k:Bytes):Tr->a4
 |.word w=>w==k
 |_=>ag
def aqg(t)(k):C9 (AE t) (.str (S k))=aa (BB k t):=by
 cases t with
 |num n=>rfl
 |word w=>change aa _=_;rw[aed];rfl
 |list l=>rfl
def aab(t)(k):KO (AE t) (.str (S k))=aa (.bl (BB k t)):=by simp[KO,aqg]
def aac(t)(k):HU (AE t) (.str (S k))=aa (.bl (!BB k t)):=by simp[HU,aqg]
def aqh(t)(k):C9 (.str (S k)) (AE t)=aa (BB k t):=by
 cases t with
 |num n=>rfl
 |word w=>change aa _=_;rw[aed];change aa _=aa (w==k);rw[ajs]
 |list l=>rfl
noncomputable def top(i:ai):Stmt:=bng.main.body.getD i (.Pass ⟨0,0,0,0⟩)
def EH(two:a4):D:=if two then .tup [.str "one",.str "two"]else .tup [.str "col"]
def XW(g:ab D->ah D)(t h:D):ah Out:=
 AI (BJ [t,.ty "int"]) (aa (.ret (.bl ae)))
  (AI (A7 (BA (BJ [t,.ty "tuple"])) (AG (AA .Lt) (AM [t]) (aa (.int 2)))) (aa (.ret (.bl ag)))
   (AI (A7 (AG (AA .Eq) (AB t (.int 0)) (aa (.str "word"))) (AG (AA .In) (AB t (.int 0)) (aa h)))
     ((A0 (AG (AA .Eq) (AM [t]) (aa (.int 2))) ((AF (AB t (.int 1)) (aa [.ty "str"])).bind BJ)).map Out.ret)
    (AI (A0 (AG (AA .NotEq) (AB t (.int 0)) (aa (.str "add"))) (AG (AA .NotEq) (AB t (.int 0)) (aa (.str "sub")))) (aa (.ret (.bl ag)))
     ((A0 (AG (AA .Eq) (AM [t]) (aa (.int 3))) (A0 ((AF (AB t (.int 1)) (aa [h])).bind g) ((AF (AB t (.int 2)) (aa [h])).bind g))).map Out.ret))))
def ahi(t)(two):N6 (AE t) (EH two)=aa (.bl (if two then BB yo t||BB yp t else BB yq t)):=by
 cases two with
 |false=>change(DH _ [.str (S yq)]).map D.bl=_;simp[DH,aqh,RN]
 |true=>change(DH _ [.str (S yo),.str (S yp)]).map D.bl=_;simp[DH,aqh,RN]
def ahj(t)(two):AA .In (AE t) (EH two)=N6 (AE t) (EH two):=by cases two<;>rfl
def aqi(a)(l):AB (.tup (AV (a::l))) (.int 0)=aa (AE a):=by change BQ (AE a::AV l) 0=_;simp[BQ,DU]
def CN:Tr->a4
 |.word _=>ae
 |_=>ag
def a52(two)(a b):(fb two (.list [a,b])).isSome=((BB wj a||(if two then BB yo a||BB yp a else BB yq a))&&CN b):=by
 cases a with
 |num|list=>cases b<;>cases two<;>rfl
 |word w=>
  cases b with
  |num|list=>rw[show CN _=ag from rfl,kr];rfl
  |word x=>
   change(if _ then _ else _:ah ajt).isSome=((w==wj||_)&&ae);cases w==wj
   .cases two;.change(if _ then _ else _:ah ajt).isSome=((w==yq)&&ae);cases w==yq<;>rfl
    .change(if _ then _ else if _ then _ else _:ah ajt).isSome=((w==yo||w==yp)&&ae);cases w==yo<;>cases w==yp<;>rfl
   rfl
def a53(two)(a b c):(fb two (.list [a,b,c])).isSome=((BB u5 a||BB u6 a)&&((fb two b).isSome&&(fb two c).isSome)):=by
 cases a with
 |num n=>rfl
 |list l=>rfl
 |word w=>rwa[fb,BB];cases j:(w==u5)<;>cases q:(w==u6)<;>cases fb two b<;>cases fb two c<;>rfl
def a54(two)(a b c d)(r):(fb two (.list (a::b::c::d::r))).isSome=false:=by simp[fb]
def xb(b):BJ [AE b,.ty "str"]=aa (.bl (CN b)):=by cases b<;>rfl
def a55(h:BB u5 a=ae):a=.word u5:=by
 cases a with
 |word w=>rw[eq_of_beq (h)]
 |_=>trivial
def a56(h:BB u6 a=ae):a=.word u6:=by
 cases a with
 |word w=>rw[eq_of_beq (h)]
 |_=>trivial
def a57(g)(t)(two)(hg:∀u,(∃l,t=.list l/\u∈l)->g [AE u,EH two]=aa (.bl (fb two u).isSome)):XW g (AE t) (EH two)=aa (.ret (.bl (fb two t).isSome)):=by
 cases t with
 |num n=>rfl
 |word w=>rfl
 |list l=>
  match l,hg with
  |[],_=>rfl
  |[a],_=>cases a<;>rfl
  |[a,b],_=>
   change AI (A7 (KO (AE a) (.str (S wj))) (AA .In (AE a) (EH two))) ((BJ [AE b,.ty "str"]).map Out.ret)
    (AI (A0 (HU (AE a) (.str (S u5))) (HU (AE a) (.str (S u6)))) _ (aa (.ret (.bl ag))))=_;rwa[aab,ahj,ahi,aac,aac,xb,a52];generalize(if two=ae then BB yo a||BB yp a else BB yq a)=q;cases BB wj a<;>cases q<;>cases CN b<;>cases BB u5 a<;>cases BB u6 a<;>rfl
  |[a,b,c],hg=>
   change AI (A7 (KO (AE a) (.str (S wj))) (AA .In (AE a) (EH two))) (aa (.ret (.bl ag)))
    (AI (A0 (HU (AE a) (.str (S u5))) (HU (AE a) (.str (S u6)))) _ ((A0 (g [AE b,EH two]) (g [AE c,EH two])).map Out.ret))=_;rwa[aab,ahj,ahi,aac,aac,hg b ⟨_,rfl,yS⟩,hg c ⟨_,rfl,yS⟩,a53];generalize(fb two b).isSome=x;generalize(fb two c).isSome=y;clear hg;cases hA:BB u5 a with
   |true=>rw[a55 hA];cases two<;>cases x<;>cases y<;>rfl
   |false=>
    cases hS:BB u6 a with
    |true=>rw[a56 hS];cases two<;>cases x<;>cases y<;>rfl
    |false=>generalize(if two=ae then BB yo a||BB yp a else BB yq a)=q;cases BB wj a<;>cases q<;>rfl
  |a::b::c::d::r,_=>
   let hl:(((AV (a::b::c::d::r)).length:ai):ak)=(r.length:ak)+4:=by rw[aee];simp;lia
   let l1:AA .Lt (.int ((AV (a::b::c::d::r)).length:ai)) (.int 2)=aa (.bl ag):=rfl;let l2:AA .Eq (.int ((AV (a::b::c::d::r)).length:ai)) (.int 2)=aa (.bl ag):=rfl;let l3:AA .Eq (.int ((AV (a::b::c::d::r)).length:ai)) (.int 3)=aa (.bl ag):=rfl;let s0:=aqi a (b::c::d::r);delta XW;rw[show AM [AE (.list (a::b::c::d::r))]=aa (.int _)from rfl,show AB (AE (.list (a::b::c::d::r))) (.int 0)=aa (AE a)from s0];change AI (aa (.bl ag)) _ (AI (A7 (aa (.bl ag)) (AA .Lt _ _)) _ (AI (A7 (AA .Eq _ _) (AA .In _ _)) ((A0 (AA .Eq _ _) _).map _) (AI (A0 (AA .NotEq _ _) (AA .NotEq _ _)) _ ((A0 (AA .Eq _ _) _).map _))))=_;rw[l1,l2,l3];rwa[show AA .Eq (AE a) (.str "word")=_ from aab a wj,ahj,ahi,show AA .NotEq (AE a) (.str "add")=_ from aac a u5,show AA .NotEq (AE a) (.str "sub")=_ from aac a u6,a54];generalize(if two=ae then BB yo a||BB yp a else BB yq a)=q;cases BB wj a<;>cases q<;>cases BB u5 a<;>cases BB u6 a<;>rfl
end CK
namespace CK
open PySem PySem.Spec PyProof.Rows L2 DL
def FL:ab (Str×Str):=[("Table","name"),("Table","columns"),("Table","rows"),("Table","places"),("Claim","level"),("Claim","owner"),("Claim","tree"),("Keeper","tables"),("Keeper","claims"),("Keeper","breakers"),("Keeper","histories"),("Keeper","turns"),("Keeper","day"),("Keeper","steps"),("Cursor","calls"),("Cursor","place")]
abbrev Fd:=ab D->ah D
structure Cq where
 N:ab Str
 fs:ab (Str×Fd)
 cs:ab (Str×D)
noncomputable def Cq.c(q:Cq):DL.Ctx:={N:=q.N,cls:=λj=>0,k:=0,fields:=FL,eg:=DI q.fs,gq:=DJ q.cs}
noncomputable def dk(i:ai)(q:Cq)(l:ab D):ah Out:=BP q.c (AO (top i)) 24 (G8 q.N l) (BC (top i)) (λj=>af)
noncomputable def hr(i:ai)(x:Str)(p:ab Str):=(i,x,p)
def HL:ab (ai×Str×ab Str):=[hr 3 "is_expression" ["tree","cell_heads"],hr 4 "is_condition" ["tree","cell_heads"],hr 5 "named_columns" ["tree"],hr 6 "reckoned" ["head","left","right"],hr 7 "value_of" ["tree","places","first","second"],hr 8 "compares" ["head","left","right"],hr 9 "holds" ["tree","places","first","second"],hr 27 "is_names" ["tree"],hr 28 "is_refers" ["tree"],hr 29 "is_measure" ["tree"],hr 30 "is_groups" ["tree"],hr 31 "is_claim" ["tree"],hr 32 "own_columns" ["tree"],hr 33 "has_columns" ["tables","name","columns"],hr 34 "is_there" ["tree","tables"],hr 41 "is_kind" ["tree"],hr 42 "is_column" ["tree"],hr 43 "is_columns" ["tree"],hr 44 "is_cell" ["tree"],hr 45 "is_row" ["tree"],hr 46 "is_table" ["tree"],hr 49 "cell_fits" ["cell","column"],hr 50 "row_fits" ["row","columns"],hr 51 "rows_fit" ["rows","columns"],hr 61 "is_word" ["text"],hr 62 "is_number" ["text"],hr 63 "read_leaf" ["piece"],hr 12 "cells_in" ["table","row","names"],hr 13 "any_breakers" ["tree","table"],hr 15 "measured" ["measure","table","numbers"],hr 18 "breaks" ["tree","table","numbers"],hr 19 "sets_with_last" ["head","count"],hr 20 "breaking" ["tree","table","sets"],hr 22 "reads_table" ["tree","name"],hr 24 "renumbered" ["numbers","taken"],hr 14 "refers_breakers" ["tree","table","other"],hr 16 "groups_breakers" ["tree","table"],hr 17 "walked_breakers" ["tree","tables"],hr 21 "find_breakers" ["tree","tables"],hr 23 "breakers_behind_put" ["tree","before","tables","name"],hr 25 "breakers_behind_take" ["tree","before","tables","name","taken"],hr 59 "text_of" ["numbers"],hr 60 "numbers_of" ["text"],hr 40 "tree_of" ["table"],hr 78 "turns_between" ["day","before","behind"],hr 90 "has_claim" ["keeper","number"],hr 91 "with_text" ["numbers","text"],hr 92 "call_status" ["keeper"],hr 93 "call_breakers" ["keeper","number"],hr 94 "call_alerts" ["keeper","level"],hr 95 "call_owned" ["keeper","owner"],hr 97 "call_history" ["keeper","number"],hr 98 "call_drift" ["keeper","number","most"],hr 47 "has_double" ["things"],hr 48 "tells_twice" ["columns"],hr 64 "read_trees" ["text"],hr 65 "read_tree" ["text"],hr 66 "written" ["tree"],hr 67 "written_trees" ["trees"],hr 96 "call_turns" ["keeper"],hr 99 "call_shown" ["keeper","name"],hr 76 "remember" ["keeper"],hr 77 "hold_table" ["keeper","table"],hr 79 "hold_breakers" ["keeper","breakers"],hr 80 "call_table" ["keeper","text"],hr 81 "call_claim" ["keeper","level","owner","text"],hr 82 "call_put" ["keeper","name","text"],hr 83 "call_take" ["keeper","number","name"],hr 84 "call_day" ["keeper"],hr 85 "call_undo" ["keeper"],hr 117 "answer_claim" ["keeper","cursor"],hr 118 "answer_put" ["keeper","cursor"],hr 119 "answer_take" ["keeper","cursor"],hr 120 "answer_drift" ["keeper","cursor"],hr 121 "answer_change" ["call","keeper","cursor"],hr 122 "answer_telling" ["call","keeper","cursor"],hr 123 "answer_call" ["keeper","cursor"]]
noncomputable def hl(j:ai):ai×Str×ab Str:=HL.getD j (0,"",[])
def A1(m:D->ah Out):Fd
 |[a]=>AK (m a)
 |_=>af
def A2(m:D->D->ah Out):Fd
 |[a,b]=>AK (m a b)
 |_=>af
def A3(m:D->D->D->ah Out):Fd
 |[a,b,c]=>AK (m a b c)
 |_=>af
def A4(m:D->D->D->D->ah Out):Fd
 |[a,b,c,f]=>AK (m a b c f)
 |_=>af
def A5(m:D->D->D->D->D->ah Out):Fd
 |[a,b,c,f,g]=>AK (m a b c f g)
 |_=>af
def ADV(c:Fd):Cq:=⟨["tree","cell_heads"],[("is_expression",c)],[]⟩
def ADW(c:Fd)(a b:D):ah Out:=AI (BJ [a,.ty "int"]) (aa (.ret (.bl ae))) (AI (A7 (BA (BJ [a,.ty "tuple"])) (AG (AA .Lt) (AM [a]) (aa (.int 2)))) (aa (.ret (.bl ag))) (AI (A7 (AG (AA .Eq) (AB a (.int 0)) (aa (.str "word"))) (AG (AA .In) (AB a (.int 0)) (aa b))) ((A0 (AG (AA .Eq) (AM [a]) (aa (.int 2))) ((AF (AB a (.int 1)) (aa [.ty "str"])).bind BJ)).map Out.ret) (AI (A0 (AG (AA .NotEq) (AB a (.int 0)) (aa (.str "add"))) (AG (AA .NotEq) (AB a (.int 0)) (aa (.str "sub")))) (aa (.ret (.bl ag))) ((A0 (AG (AA .Eq) (AM [a]) (aa (.int 3))) (A0 ((AF (AB a (.int 1)) (aa [b])).bind c) ((AF (AB a (.int 2)) (aa [b])).bind c))).map Out.ret))))
def LJ:ai->Fd
 |0=>λj=>af
 |n+1=>A2 (ADW (LJ n))
def ADX(c e:Fd):Cq:=⟨["tree","cell_heads","head","part"],[("is_expression",c),("is_condition",e)],[]⟩
def CD(c e:Fd)(a b f:D):ah Out:=AI (A7 (AA .Eq f (.str "less")) (AA .Eq f (.str "same"))) ((A0 (AG (AA .Eq) (AM [a]) (aa (.int 3))) (A0 ((AF (AB a (.int 1)) (aa [b])).bind c) ((AF (AB a (.int 2)) (aa [b])).bind c))).map Out.ret) (AI (AA .Eq f (.str "gone")) ((A0 (AG (AA .Eq) (AM [a]) (aa (.int 2))) ((AF (AB a (.int 1)) (aa [b])).bind c)).map Out.ret) (AI (AA .Eq f (.str "not")) ((A0 (AG (AA .Eq) (AM [a]) (aa (.int 2))) ((AF (AB a (.int 1)) (aa [b])).bind e)).map Out.ret) (AI (A0 (AA .NotEq f (.str "and")) (AA .NotEq f (.str "or"))) (aa (.ret (.bl ag))) (((AF (((BZ (aa a) (aa (aa (.int 1))) af).bind BM).bind λz=>(A6 (λd=>((e [d,b]).map aa)) z).map D.lst) (aa [])).bind B3).map Out.ret))))
def XX(c e:Fd)(a b:D):ah Out:=AI (A7 (BA (BJ [a,.ty "tuple"])) (AG (AA .Lt) (AM [a]) (aa (.int 1)))) (aa (.ret (.bl ag))) ((AB a (.int 0)).bind (CD c e a b))
def JC:ai->Fd
 |0=>λj=>af
 |n+1=>A2 (XX (LJ 42) (JC n))
def XY(b:Fd):Cq:=⟨["tree","names","part"],[("named_columns",b)],[("OF_ONE_ROW",.tup [.str "col"]),("OF_TWO_ROWS",.tup [.str "one",.str "two"])]⟩
def SY(b:Fd)(a:D):ah Out:=dk 5 (XY b) [a]
def GO:ai->Fd
 |0=>λj=>af
 |n+1=>A1 (SY (GO n))
def ADY:Cq:=⟨["head","left","right"],[],[]⟩
def ADZ(a b c:D):ah Out:=AI (A7 (BA (BJ [b,.ty "int"])) (BA (BJ [c,.ty "int"]))) (aa (.ret (.tup []))) (AI (AA .Eq a (.str "add")) ((BI b c).map Out.ret) ((AI (AA .GtE b c) (E1 b c) (aa (.tup []))).map Out.ret))
def OI:Fd:=A3 ADZ
def AD0(f g:Fd):Cq:=⟨["tree","places","first","second","head","left"],[("value_of",f),("reckoned",g)],[]⟩
def AD1(f g:Fd)(a b c e:D):ah Out:=AI (BJ [a,.ty "int"]) (aa (.ret a)) ((AB a (.int 0)).bind λh=>(AI (AA .Eq h (.str "word")) ((AB a (.int 1)).map Out.ret) (AI (AA .Eq h (.str "two")) ((AG AB (aa e) (AG AB (aa b) (AB a (.int 1)))).map Out.ret) (AI (A7 (AA .Eq h (.str "add")) (AA .Eq h (.str "sub"))) (((AF (AB a (.int 1)) (aa [b,c,e])).bind f).bind λi=>(((AF (aa h) (AF (aa i) (AF ((AF (AB a (.int 2)) (aa [b,c,e])).bind f) (aa [])))).bind g).map Out.ret)) ((AG AB (aa c) (AG AB (aa b) (AB a (.int 1)))).map Out.ret)))))
def JD:ai->Fd
 |0=>λj=>af
 |n+1=>A4 (AD1 (JD n) OI)
def AD2:Cq:=⟨["head","left","right"],[],[]⟩
def AD3(a b c:D):ah Out:=AI (AA .Eq a (.str "less")) ((A0 (BJ [b,.ty "int"]) (A0 (BJ [c,.ty "int"]) (AA .Lt b c))).map Out.ret) ((A0 (AA .NotEq b (.tup [])) (AA .Eq b c)).map Out.ret)
def OJ:Fd:=A3 AD3
def XZ(f g h:Fd):Cq:=⟨["tree","places","first","second","head","left","part"],[("value_of",f),("compares",g),("holds",h)],[]⟩
def AA7(f g h:Fd)(a b c e:D):ah Out:=dk 9 (XZ f g h) [a,b,c,e]
def FO:ai->Fd
 |0=>λj=>af
 |n+1=>A4 (AA7 (JD 42) OJ (FO n))
def AD4:Cq:=⟨["tree","name"],[],[]⟩
def AA8(a:D):ah Out:=(A0 (BJ [a,.ty "tuple"]) ((AF (((aa a).bind BM).bind λz=>(A6 (λd=>((BJ [d,.ty "str"]).map aa)) z).map D.lst) (aa [])).bind B3)).map Out.ret
def FP:Fd:=A1 AA8
def AD5(b:Fd):Cq:=⟨["tree"],[("is_names",b)],[]⟩
def AD6(b:Fd)(a:D):ah Out:=AI (A7 (AG (AA .NotEq) (AM [a]) (aa (.int 5))) (A7 (BA ((AF (AB a (.int 2)) (aa [])).bind b)) (A7 (BA ((AF (AB a (.int 3)) (aa [.ty "str"])).bind BJ)) (BA ((AF (AB a (.int 4)) (aa [])).bind b))))) (aa (.ret (.bl ag))) ((A0 (AG (AA .GtE) ((AF (AB a (.int 2)) (aa [])).bind AM) (aa (.int 1))) (AG (AA .Eq) ((AF (AB a (.int 2)) (aa [])).bind AM) ((AF (AB a (.int 4)) (aa [])).bind AM))).map Out.ret)
def OK:Fd:=A1 (AD6 FP)
def AD7:Cq:=⟨["tree"],[],[]⟩
def AD8(a:D):ah Out:=AI (BA (BJ [a,.ty "tuple"])) (aa (.ret (.bl ag))) (AI (AG (AA .Eq) (AM [a]) (aa (.int 2))) ((A0 (AG (AA .Eq) (AB a (.int 0)) (aa (.str "sum"))) ((AF (AB a (.int 1)) (aa [.ty "str"])).bind BJ)).map Out.ret) ((AA .Eq a (.tup [.str "count"])).map Out.ret))
def OL:Fd:=A1 AD8
def AD9(b c:Fd):Cq:=⟨["tree"],[("is_names",b),("is_measure",c)],[]⟩
def AEA(b c:Fd)(a:D):ah Out:=AI (A7 (AG (AA .NotEq) (AM [a]) (aa (.int 6))) (A7 (BA ((AF (AB a (.int 2)) (aa [])).bind b)) (BA ((AF (AB a (.int 3)) (aa [])).bind c)))) (aa (.ret (.bl ag))) ((A0 ((AF (AB a (.int 4)) (aa [.ty "int"])).bind BJ) ((AF (AB a (.int 5)) (aa [.ty "int"])).bind BJ)).map Out.ret)
def OM:Fd:=A1 (AEA FP OL)
def AEB(b c e f:Fd):Cq:=⟨["tree","head"],[("is_condition",b),("is_names",c),("is_refers",e),("is_groups",f)],[("OF_ONE_ROW",.tup [.str "col"]),("OF_TWO_ROWS",.tup [.str "one",.str "two"])]⟩
def CL(b c e f:Fd)(a g:D):ah Out:=AI (A7 (AA .Eq g (.str "each")) (AA .Eq g (.str "any"))) ((A0 (AG (AA .Eq) (AM [a]) (aa (.int 3))) ((AF (AB a (.int 2)) (aa [.tup [.str "col"]])).bind b)).map Out.ret) (AI (A7 (AA .Eq g (.str "pairs")) (AA .Eq g (.str "next"))) ((A0 (AG (AA .Eq) (AM [a]) (aa (.int 3))) ((AF (AB a (.int 2)) (aa [.tup [.str "one",.str "two"]])).bind b)).map Out.ret) (AI (AA .Eq g (.str "key")) ((A0 (AG (AA .Eq) (AM [a]) (aa (.int 3))) ((AF (AB a (.int 2)) (aa [])).bind c)).map Out.ret) (AI (AA .Eq g (.str "fixes")) ((A0 (AG (AA .Eq) (AM [a]) (aa (.int 4))) (A0 ((AF (AB a (.int 2)) (aa [])).bind c) ((AF (AB a (.int 3)) (aa [])).bind c))).map Out.ret) (AI (AA .Eq g (.str "refers")) ((e [a]).map Out.ret) ((A0 (AA .Eq g (.str "groups")) (f [a])).map Out.ret)))))
def AEC(b c e f:Fd)(a:D):ah Out:=AI (A7 (BA (BJ [a,.ty "tuple"])) (A7 (AG (AA .Lt) (AM [a]) (aa (.int 3))) (BA ((AF (AB a (.int 1)) (aa [.ty "str"])).bind BJ)))) (aa (.ret (.bl ag))) ((AB a (.int 0)).bind (CL b c e f a))
def ON:Fd:=A1 (AEC (JC 42) FP OK OM)
def AED(b:Fd):Cq:=⟨["tree","head"],[("named_columns",b)],[]⟩
def AEE(b:Fd)(a:D):ah Out:=(AB a (.int 0)).bind λc=>(AI (AA .Eq c (.str "fixes")) ((AG BI (AB a (.int 2)) (AB a (.int 3))).map Out.ret) (AI (AA .Eq c (.str "groups")) ((AG BI (AB a (.int 2)) (BZ (AB a (.int 3)) (aa (aa (.int 1))) af)).map Out.ret) (AI (A7 (AA .Eq c (.str "key")) (AA .Eq c (.str "refers"))) ((AB a (.int 2)).map Out.ret) (((AF (AB a (.int 2)) (aa [])).bind b).map Out.ret))))
def OO:Fd:=A1 (AEE (GO 42))
def AEF:Cq:=⟨["tables","name","columns","column"],[],[]⟩
def AA9(a b c:D):ah Out:=AI (AA .NotIn b a) (aa (.ret (.bl ag))) (((AF (((aa c).bind BM).bind λz=>(A6 (λd=>((AG (AA .In) (aa d) (A8 FL "places" (AB a b))).map aa)) z).map D.lst) (aa [])).bind B3).map Out.ret)
def FQ:Fd:=A3 AA9
def AEG(c e:Fd):Cq:=⟨["tree","tables","table"],[("own_columns",c),("has_columns",e)],[]⟩
def ABA(c e:Fd)(a b:D):ah Out:=AI (BA ((AF (aa b) (AF (AB a (.int 1)) (AF (c [a]) (aa [])))).bind e)) (aa (.ret (.bl ag))) (AI (AG (AA .Eq) (AB a (.int 0)) (aa (.str "refers"))) (((AF (aa b) (AF (AB a (.int 3)) (AF (AB a (.int 4)) (aa [])))).bind e).map Out.ret) (AI (A0 (AG (AA .Eq) (AB a (.int 0)) (aa (.str "groups"))) (AG (AA .Eq) (AG AB (AB a (.int 3)) (aa (.int 0))) (aa (.str "sum")))) ((AG AB (aa b) (AB a (.int 1))).bind λf=>((AG (AA .Eq) (AG AB (AG AB (AG AB (A8 FL "columns" (aa f)) (AG AB (A8 FL "places" (aa f)) (AG AB (AB a (.int 3)) (aa (.int 1))))) (aa (.int 1))) (aa (.int 0))) (aa (.str "up"))).map Out.ret)) (aa (.ret (.bl ae)))))
def S8:Fd:=A2 (ABA OO FQ)
def AEH:Cq:=⟨["tree","word"],[],[("MOST_WORDS",.int 10)]⟩
def ABB(a:D):ah Out:=AI (A7 (BA (BJ [a,.ty "tuple"])) (AG (AA .Lt) (AM [a]) (aa (.int 2)))) (aa (.ret (.bl ag))) (AI (AG (AA .Eq) (AB a (.int 0)) (aa (.str "up"))) ((A0 (AG (AA .Eq) (AM [a]) (aa (.int 2))) (A0 ((AF (AB a (.int 1)) (aa [.ty "int"])).bind BJ) (AG (AA .GtE) (AB a (.int 1)) (aa (.int 1))))).map Out.ret) (AI (A7 (AG (AA .NotEq) (AB a (.int 0)) (aa (.str "of"))) (AG (AA .Gt) (AM [a]) (BI (.int 1) (.int 10)))) (aa (.ret (.bl ag))) (((AF (((BZ (aa a) (aa (aa (.int 1))) af).bind BM).bind λz=>(A6 (λd=>((BJ [d,.ty "str"]).map aa)) z).map D.lst) (aa [])).bind B3).map Out.ret)))
def LK:Fd:=A1 ABB
def AEI(b:Fd):Cq:=⟨["tree"],[("is_kind",b)],[]⟩
def ABC(b:Fd)(a:D):ah Out:=AI (A7 (BA (BJ [a,.ty "tuple"])) (A7 (AG (AA .Lt) (AM [a]) (aa (.int 2))) (AG (AA .Gt) (AM [a]) (aa (.int 3))))) (aa (.ret (.bl ag))) (AI (A0 (AG (AA .Eq) (AM [a]) (aa (.int 3))) (AG (AA .NotEq) (AB a (.int 2)) (aa (.str "maybe")))) (aa (.ret (.bl ag))) ((A0 ((AF (AB a (.int 0)) (aa [.ty "str"])).bind BJ) ((AF (AB a (.int 1)) (aa [])).bind b)).map Out.ret))
def S9:Fd:=A1 (ABC LK)
def AEJ(b:Fd):Cq:=⟨["tree","column"],[("is_column",b)],[("MOST_COLUMNS",.int 6)]⟩
def ABD(b:Fd)(a:D):ah Out:=AI (A7 (BA (BJ [a,.ty "tuple"])) (A7 (AG (AA .Lt) (AM [a]) (aa (.int 1))) (AG (AA .Gt) (AM [a]) (aa (.int 6))))) (aa (.ret (.bl ag))) (((AF (((aa a).bind BM).bind λz=>(A6 (λd=>((b [d]).map aa)) z).map D.lst) (aa [])).bind B3).map Out.ret)
def OP:Fd:=A1 (ABD S9)
def AEK:Cq:=⟨["tree"],[],[]⟩
def AEL(a:D):ah Out:=(A7 (AA .Eq a (.tup [])) (BJ [a,.tup [.ty "int",.ty "str"]])).map Out.ret
def TB:Fd:=A1 AEL
def AEM(b:Fd):Cq:=⟨["tree","cell"],[("is_cell",b)],[]⟩
def AEN(b:Fd)(a:D):ah Out:=(A0 (BJ [a,.ty "tuple"]) ((AF (((aa a).bind BM).bind λz=>(A6 (λd=>((b [d]).map aa)) z).map D.lst) (aa [])).bind B3)).map Out.ret
def IE:Fd:=A1 (AEN TB)
def AEO(b c:Fd):Cq:=⟨["tree","row"],[("is_columns",b),("is_row",c)],[("MOST_ROWS",.int 40)]⟩
def ABE(b c:Fd)(a:D):ah Out:=AI (A7 (BA (BJ [a,.ty "tuple"])) (A7 (AG (AA .Lt) (AM [a]) (aa (.int 3))) (AG (AA .Gt) (AM [a]) (BI (.int 3) (.int 40))))) (aa (.ret (.bl ag))) (AI (A7 (AG (AA .NotEq) (AB a (.int 0)) (aa (.str "table"))) (A7 (BA ((AF (AB a (.int 1)) (aa [.ty "str"])).bind BJ)) (BA ((AF (AB a (.int 2)) (aa [])).bind b)))) (aa (.ret (.bl ag))) (((AF (((BZ (aa a) (aa (aa (.int 3))) af).bind BM).bind λz=>(A6 (λd=>((c [d]).map aa)) z).map D.lst) (aa [])).bind B3).map Out.ret))
def TC:Fd:=A1 (ABE OP IE)
def AEP:Cq:=⟨["cell","column","kind"],[],[]⟩
def ABF(a b:D):ah Out:=AI (AA .Eq a (.tup [])) ((AG (AA .Eq) (AM [b]) (aa (.int 3))).map Out.ret) ((AB b (.int 1)).bind λc=>(AI (AG (AA .Eq) (AB c (.int 0)) (aa (.str "up"))) ((A0 (BJ [a,.ty "int"]) (AG (AA .Lt) (aa a) (AB c (.int 1)))).map Out.ret) ((AG (AA .In) (aa a) (BZ (aa c) (aa (aa (.int 1))) af)).map Out.ret)))
def LM:Fd:=A2 ABF
def ABG(c:Fd):Cq:=⟨["row","columns","cell","column"],[("cell_fits",c)],[]⟩
def ABH(c:Fd)(a b:D):ah Out:=dk 50 (ABG c) [a,b]
def IF:Fd:=A2 (ABH LM)
def AEQ(c:Fd):Cq:=⟨["rows","columns","row"],[("row_fits",c)],[]⟩
def AER(c:Fd)(a b:D):ah Out:=((AF (((aa a).bind BM).bind λz=>(A6 (λd=>((c [d,b]).map aa)) z).map D.lst) (aa [])).bind B3).map Out.ret
def TF:Fd:=A2 (AER IF)
def AES:Cq:=⟨["text","sign"],[],[("MOST_WORD",.int 20),("LETTERS",.str "ABCDEFGHIJKLMNOPQRSTUVWXYZabcdefghijklmnopqrstuvwxyz"),("DIGITS",.str "0123456789")]⟩
def ABI(a:D):ah Out:=AI (A7 (AG (AA .Lt) (AM [a]) (aa (.int 1))) (A7 (AG (AA .Gt) (AM [a]) (aa (.int 20))) (AG (AA .NotIn) (AB a (.int 0)) (aa (.str "ABCDEFGHIJKLMNOPQRSTUVWXYZabcdefghijklmnopqrstuvwxyz"))))) (aa (.ret (.bl ag))) (((AF (((aa a).bind BM).bind λz=>(A6 (λd=>((A7 (AA .In d (.str "ABCDEFGHIJKLMNOPQRSTUVWXYZabcdefghijklmnopqrstuvwxyz")) (A7 (AA .In d (.str "0123456789")) (AA .In d (.str "-.")))).map aa)) z).map D.lst) (aa [])).bind B3).map Out.ret)
def LN:Fd:=A1 ABI
def AET:Cq:=⟨["text","sign"],[],[("MOST_NUMBER",.int 1000000),("DIGITS",.str "0123456789")]⟩
def ABJ(a:D):ah Out:=AI (A7 (AG (AA .Lt) (AM [a]) (aa (.int 1))) (AG (AA .Gt) (AM [a]) ((AF (HX [.int 1000000]) (aa [])).bind AM))) (aa (.ret (.bl ag))) (AI (BA ((AF (((aa a).bind BM).bind λz=>(A6 (λd=>((AA .In d (.str "0123456789")).map aa)) z).map D.lst) (aa [])).bind B3)) (aa (.ret (.bl ag))) ((A0 (AG (AA .Eq) ((AF (IQ [a]) (aa [])).bind HX) (aa a)) (AG (AA .LtE) (IQ [a]) (aa (.int 1000000)))).map Out.ret))
def TH:Fd:=A1 ABJ
def AEU(b c:Fd):Cq:=⟨["piece"],[("is_word",b),("is_number",c)],[]⟩
def AEV(b c:Fd)(a:D):ah Out:=AI (b [a]) (aa (.ret a)) (AI (c [a]) ((IQ [a]).map Out.ret) (aa (.ret .bj)))
def LO:Fd:=A1 (AEV LN TH)
def AEW:Cq:=⟨["table","row","names","name"],[],[]⟩
def ABK(a b c:D):ah Out:=((AF (((aa c).bind BM).bind λz=>(A6 (λd=>((AG AB (aa b) (AG AB (A8 FL "places" (aa a)) (aa d))).map aa)) z).map D.lst) (aa [])).bind IP).map Out.ret
def C3:Fd:=A3 ABK
def X0(c:Fd):Cq:=⟨["tree","table","row"],[("holds",c)],[]⟩
def ABL(c:Fd)(a b:D):ah Out:=dk 13 (X0 c) [a,b]
def OQ:Fd:=A2 (ABL (FO 42))
def AEX:Cq:=⟨["measure","table","numbers","place","number"],[],[]⟩
def ABM(a b c:D):ah Out:=AI (AG (AA .Eq) (AB a (.int 0)) (aa (.str "count"))) ((AM [c]).map Out.ret) ((AG AB (A8 FL "places" (aa b)) (AB a (.int 1))).bind λe=>(((AF (((aa c).bind BM).bind λz=>(A6 (λd=>(AI (AG (AA .NotEq) (AG AB (AG AB (A8 FL "rows" (aa b)) (aa d)) (aa e)) (aa (.tup []))) ((AG AB (AG AB (A8 FL "rows" (aa b)) (aa d)) (aa e)).map aa) (aa af))) z).map D.lst) (aa [])).bind sumF).map Out.ret))
def JE:Fd:=A3 ABM
def AEY(e f:Fd):Cq:=⟨["tree","table","numbers","first","second"],[("holds",e),("cells_in",f)],[]⟩
def ABN(e f:Fd)(a b c:D):ah Out:=(AG AB (A8 FL "rows" (aa b)) (AB c (.int 0))).bind λg=>((AG AB (A8 FL "rows" (aa b)) (AB c (.int (-1)))).bind λh=>(AI (A0 (AG (AA .NotEq) (AB a (.int 0)) (aa (.str "key"))) (AG (AA .NotEq) (AB a (.int 0)) (aa (.str "fixes")))) ((BA ((AF (AB a (.int 2)) (AF (A8 FL "places" (aa b)) (aa [g,h]))).bind e)).map Out.ret) (AI (AG (AA .NotEq) ((AF (aa b) (AF (aa g) (AF (AB a (.int 2)) (aa [])))).bind f) ((AF (aa b) (AF (aa h) (AF (AB a (.int 2)) (aa [])))).bind f)) (aa (.ret (.bl ag))) ((A7 (AG (AA .Eq) (AB a (.int 0)) (aa (.str "key"))) (AG (AA .NotEq) ((AF (aa b) (AF (aa g) (AF (AB a (.int 3)) (aa [])))).bind f) ((AF (aa b) (AF (aa h) (AF (AB a (.int 3)) (aa [])))).bind f))).map Out.ret))))
def OR:Fd:=A3 (ABN (FO 42) C3)
def AEZ:Cq:=⟨["head","count","last","number"],[],[]⟩
def ABO(a b:D):ah Out:=(E1 b (.int 1)).bind λc=>(AI (AA .Eq a (.str "each")) (aa (.ret (.lst [.tup [c]]))) (AI (AA .Eq a (.str "next")) ((AI (AA .Gt c (.int 0)) ((AF ((AF (E1 c (.int 1)) (aa [c])).map D.tup) (aa [])).map D.lst) (aa (.lst []))).map Out.ret) (((RW (aa c)).bind λz=>(A6 (λd=>(aa (aa (.tup [d,c])))) z).map D.lst).map Out.ret)))
def JF:Fd:=A2 ABO
def AE0(e:Fd):Cq:=⟨["tree","table","sets","numbers"],[("breaks",e)],[]⟩
def AE1(e:Fd)(a b c:D):ah Out:=(((aa c).bind BM).bind λz=>(A6 (λd=>(AI (e [a,b,d]) (aa (aa d)) (aa af))) z).map D.lst).map Out.ret
def HB:Fd:=A3 (AE1 OR)
def AE2:Cq:=⟨["tree","name"],[],[]⟩
def AE3(a b:D):ah Out:=(A7 (AG (AA .Eq) (AB a (.int 1)) (aa b)) (A0 (AG (AA .Eq) (AB a (.int 0)) (aa (.str "refers"))) (AG (AA .Eq) (AB a (.int 3)) (aa b)))).map Out.ret
def LP:Fd:=A2 AE3
def AE4:Cq:=⟨["numbers","taken","number"],[],[]⟩
def AE5(a b:D):ah Out:=((AF (((aa a).bind BM).bind λz=>(A6 (λd=>((AI (AA .Gt d b) (E1 d (.int 1)) (aa d)).map aa)) z).map D.lst) (aa [])).bind IP).map Out.ret
def OS:Fd:=A2 AE5
structure Lk(P:de)(w:c9)(K:ba)(B:Str->ah a6)(A:Heap)(cls:Str->Addr):Prop where
 fl:∀c f,(c,f)∈FL->fy K (cls c)/\BG K (cls c) f
 bl:∀x∈GI,B x=af
 h:∀e∈HL,G9 K B e.2.1 (top e.1) e.2.2
 X1:BR K B cls "OF_ONE_ROW" (.tup [(.str "col")])
 X2:BR K B cls "OF_TWO_ROWS" (.tup [(.str "one"),(.str "two")])
 a58:BR K B cls "MOST_WORDS" (.int 10)
 a59:BR K B cls "MOST_COLUMNS" (.int 6)
 aqj:BR K B cls "MOST_ROWS" (.int 40)
 a6a:BR K B cls "MOST_WORD" (.int 20)
 aqk:BR K B cls "LETTERS" (.str "ABCDEFGHIJKLMNOPQRSTUVWXYZabcdefghijklmnopqrstuvwxyz")
 X3:BR K B cls "DIGITS" (.str "0123456789")
 a6b:BR K B cls "MOST_NUMBER" (.int 1000000)
 TJ:BR K B cls "BY_WALK" (.tup [(.str "any"),(.str "refers"),(.str "groups")])
 a6c:BR K B cls "MOST_BYTES_TOLD" (.int 12000)
 X4:BR K B cls "LEVELS" (.tup [(.int 0),(.int 1),(.int 2)])
 a6d:BR K B cls "MOST_DRIFT" (.int 1000)
 aql:BR K B cls "MOST_BYTES" (.int 4000)
 a6e:BR K B cls "MOST_DEEP" (.int 40)
 a6f:BR K B cls "MOST_TURNS_TOLD" (.int 100)
 a6g:BR K B cls "MOST_STEPS" (.int 10)
 a6h:BR K B cls "MOST_TABLES" (.int 3)
 a6i:BR K B cls "MOST_CLAIMS" (.int 12)
 a6j:BR K B cls "MOST_CLAIM_BYTES" (.int 700)
 a6k:BR K B cls "TABLE" (.int 0)
 a6l:BR K B cls "CLAIM" (.int 1)
 a6m:BR K B cls "PUT" (.int 2)
 a6n:BR K B cls "TAKE" (.int 3)
 a6o:BR K B cls "DAY" (.int 9)
 a6p:BR K B cls "UNDO" (.int 13)
 a6q:BR K B cls "STATUS" (.int 4)
 a6r:BR K B cls "BREAKERS" (.int 5)
 a6s:BR K B cls "ALERTS" (.int 6)
 a6t:BR K B cls "OWNED" (.int 7)
 a6u:BR K B cls "TURNS" (.int 8)
 a6v:BR K B cls "HISTORY" (.int 10)
 a6w:BR K B cls "DRIFT" (.int 11)
 a6x:BR K B cls "SHOWN" (.int 12)
section
variable{P:de}{w:c9}{K:ba}{B:Str->ah a6}{A:Heap}{cls:Str->Addr}
def Lk.g(L:Lk P w K B A cls)(j:ai)(h:j<HL.length:=by decide):G9 K B (hl j).2.1 (top (hl j).1) (hl j).2.2:=L.h _ (by delta hl;erw[yh,gz h,ZW h])
def iq{k m}(L:Lk P w K B A cls)(j)(q:Cq)(x:EU P w K B A cls k q.fs)(y:EV K B cls q.cs)(h:j<HL.length:=by decide)(l:(hl j).2.2.length=1:=by rfl)(S:iz q.N (hl j).2.2 (AO (top (hl j).1)):=by decide+kernel)(e:∀a,dk (hl j).1 q [a]=m a:=by intros;rfl):AW P w K B A cls (hl j).2.1 (k+1) (A1 m):=by
 show zm (k:=k) (n:=24) (L.g j h) S x y L.fl L.bl (λds d h=>?_) (λds d h=>?_);.match ds,h with
  |[_],_=>show l.symm
 .match ds,h with
  |[a],h=>show(e a).trans (aa4 h)
def ju{k m}(L:Lk P w K B A cls)(j)(q:Cq)(x:EU P w K B A cls k q.fs)(y:EV K B cls q.cs)(h:j<HL.length:=by decide)(l:(hl j).2.2.length=2:=by rfl)(S:iz q.N (hl j).2.2 (AO (top (hl j).1)):=by decide+kernel)(e:∀a b,dk (hl j).1 q [a,b]=m a b:=by intros;rfl):AW P w K B A cls (hl j).2.1 (k+1) (A2 m):=by
 show zm (k:=k) (n:=24) (L.g j h) S x y L.fl L.bl (λds d h=>?_) (λds d h=>?_);.match ds,h with
  |[_,_],_=>show l.symm
 .match ds,h with
  |[a,b],h=>show(e a b).trans (aa4 h)
def ue{k m}(L:Lk P w K B A cls)(j)(q:Cq)(x:EU P w K B A cls k q.fs)(y:EV K B cls q.cs)(h:j<HL.length:=by decide)(l:(hl j).2.2.length=3:=by rfl)(S:iz q.N (hl j).2.2 (AO (top (hl j).1)):=by decide+kernel)(e:∀a b c,dk (hl j).1 q [a,b,c]=m a b c:=by intros;rfl):AW P w K B A cls (hl j).2.1 (k+1) (A3 m):=by
 show zm (k:=k) (n:=24) (L.g j h) S x y L.fl L.bl (λds d h=>?_) (λds d h=>?_);.match ds,h with
  |[_,_,_],_=>show l.symm
 .match ds,h with
  |[a,b,c],h=>show(e a b c).trans (aa4 h)
def ahk{k m}(L:Lk P w K B A cls)(j)(q:Cq)(x:EU P w K B A cls k q.fs)(y:EV K B cls q.cs)(h:j<HL.length:=by decide)(l:(hl j).2.2.length=4:=by rfl)(S:iz q.N (hl j).2.2 (AO (top (hl j).1)):=by decide+kernel)(e:∀a b c f,dk (hl j).1 q [a,b,c,f]=m a b c f:=by intros;rfl):AW P w K B A cls (hl j).2.1 (k+1) (A4 m):=by
 show zm (k:=k) (n:=24) (L.g j h) S x y L.fl L.bl (λds d h=>?_) (λds d h=>?_);.match ds,h with
  |[_,_,_,_],_=>show l.symm
 .match ds,h with
  |[a,b,c,f],h=>show(e a b c f).trans (aa4 h)
def a6y{k m}(L:Lk P w K B A cls)(j)(q:Cq)(x:EU P w K B A cls k q.fs)(y:EV K B cls q.cs)(h:j<HL.length:=by decide)(l:(hl j).2.2.length=5:=by rfl)(S:iz q.N (hl j).2.2 (AO (top (hl j).1)):=by decide+kernel)(e:∀a b c f g,dk (hl j).1 q [a,b,c,f,g]=m a b c f g:=by intros;rfl):AW P w K B A cls (hl j).2.1 (k+1) (A5 m):=by
 show zm (k:=k) (n:=24) (L.g j h) S x y L.fl L.bl (λds d h=>?_) (λds d h=>?_);.match ds,h with
  |[_,_,_,_,_],_=>show l.symm
 .match ds,h with
  |[a,b,c,f,g],h=>show(e a b c f g).trans (aa4 h)
section
variable(L:Lk P w K B A cls)
include L
def aqm:∀n,AW P w K B A cls "is_expression" (0+n) (LJ n)
 |0=>zy (L.g 0)
 |n+1=>ju (k:=0+n) L 0 (ADV (LJ n)) ⟨aqm n,trivial⟩ trivial (S:=⟨rfl,rfl,rfl,ff rfl,rfl,by decide+kernel,by decide+kernel⟩)
def aqn:∀n,AW P w K B A cls "is_condition" (42+n) (JC n)
 |0=>zy (L.g 1)
 |n+1=>ju (k:=42+n) L 1 (ADX (LJ 42) (JC n)) ⟨(aqm L 42).mono,aqn n,trivial⟩ trivial (S:=⟨rfl,rfl,rfl,ff rfl,rfl,by decide+kernel,by decide+kernel⟩)
def aqo:∀n,AW P w K B A cls "named_columns" (0+n) (GO n)
 |0=>zy (L.g 2)
 |n+1=>iq (k:=0+n) L 2 (XY (GO n)) ⟨aqo n,trivial⟩ ⟨L.X1,L.X2,trivial⟩ (S:=⟨rfl,rfl,rfl,ff rfl,rfl,by decide+kernel,by decide+kernel⟩)
def a6z:AW P w K B A cls "reckoned" 1 OI:=ue L 3 ADY trivial trivial
def aqp:∀n,AW P w K B A cls "value_of" (1+n) (JD n)
 |0=>zy (L.g 4)
 |n+1=>ahk (k:=1+n) L 4 (AD0 (JD n) OI) ⟨aqp n,(a6z L).mono,trivial⟩ trivial (S:=⟨rfl,rfl,rfl,ff rfl,rfl,by decide+kernel,by decide+kernel⟩)
def a60:AW P w K B A cls "compares" 1 OJ:=ue L 5 AD2 trivial trivial
def ahl:∀n,AW P w K B A cls "holds" (43+n) (FO n)
 |0=>zy (L.g 6)
 |n+1=>ahk (k:=43+n) L 6 (XZ (JD 42) OJ (FO n)) ⟨(aqp L 42).mono,(a60 L).mono,ahl n,trivial⟩ trivial (S:=⟨rfl,rfl,rfl,ff rfl,rfl,by decide+kernel,by decide+kernel⟩)
def ahm:AW P w K B A cls "is_names" 1 FP:=iq L 7 AD4 trivial trivial
def a61:AW P w K B A cls "is_refers" 2 OK:=iq L 8 (AD5 FP) ⟨(ahm L).mono,trivial⟩ trivial
def a62:AW P w K B A cls "is_measure" 1 OL:=iq L 9 AD7 trivial trivial
def a63:AW P w K B A cls "is_groups" 2 OM:=iq L 10 (AD9 FP OL) ⟨(ahm L).mono,(a62 L).mono,trivial⟩ trivial
def a64:AW P w K B A cls "is_claim" 85 ON:=iq L 11 (AEB (JC 42) FP OK OM) ⟨(aqn L 42).mono,(ahm L).mono,(a61 L).mono,(a63 L).mono,trivial⟩ ⟨L.X1,L.X2,trivial⟩
def a65:AW P w K B A cls "own_columns" 43 OO:=iq L 12 (AED (GO 42)) ⟨(aqo L 42).mono,trivial⟩ trivial
def a66:AW P w K B A cls "has_columns" 1 FQ:=ue L 13 AEF trivial trivial
def a67:AW P w K B A cls "is_there" 44 S8:=ju L 14 (AEG OO FQ) ⟨(a65 L).mono,(a66 L).mono,trivial⟩ trivial
def a68:AW P w K B A cls "is_kind" 1 LK:=iq L 15 AEH trivial ⟨L.a58,trivial⟩
def a69:AW P w K B A cls "is_column" 2 S9:=iq L 16 (AEI LK) ⟨(a68 L).mono,trivial⟩ trivial
def a7a:AW P w K B A cls "is_columns" 3 OP:=iq L 17 (AEJ S9) ⟨(a69 L).mono,trivial⟩ ⟨L.a59,trivial⟩
def a7b:AW P w K B A cls "is_cell" 1 TB:=iq L 18 AEK trivial trivial
def aqq:AW P w K B A cls "is_row" 2 IE:=iq L 19 (AEM TB) ⟨(a7b L).mono,trivial⟩ trivial
def a7c:AW P w K B A cls "is_table" 4 TC:=iq L 20 (AEO OP IE) ⟨(a7a L).mono,(aqq L).mono,trivial⟩ ⟨L.aqj,trivial⟩
def a7d:AW P w K B A cls "cell_fits" 1 LM:=ju L 21 AEP trivial trivial
def aqr:AW P w K B A cls "row_fits" 2 IF:=ju L 22 (ABG LM) ⟨(a7d L).mono,trivial⟩ trivial
def a7e:AW P w K B A cls "rows_fit" 3 TF:=ju L 23 (AEQ IF) ⟨(aqr L).mono,trivial⟩ trivial
def aqs:AW P w K B A cls "is_word" 1 LN:=iq L 24 AES trivial ⟨L.a6a,L.aqk,L.X3,trivial⟩
def a7f:AW P w K B A cls "is_number" 1 TH:=iq L 25 AET trivial ⟨L.a6b,L.X3,trivial⟩
def a7g:AW P w K B A cls "read_leaf" 2 LO:=iq L 26 (AEU LN TH) ⟨(aqs L).mono,(a7f L).mono,trivial⟩ trivial
def ahn:AW P w K B A cls "cells_in" 1 C3:=ue L 27 AEW trivial trivial
def a7h:AW P w K B A cls "any_breakers" 86 OQ:=ju L 28 (X0 (FO 42)) ⟨(ahl L 42).mono,trivial⟩ trivial
def a7i:AW P w K B A cls "measured" 1 JE:=ue L 29 AEX trivial trivial
def a7j:AW P w K B A cls "breaks" 86 OR:=ue L 30 (AEY (FO 42) C3) ⟨(ahl L 42).mono,(ahn L).mono,trivial⟩ trivial
def aqt:AW P w K B A cls "sets_with_last" 1 JF:=ju L 31 AEZ trivial trivial
def aho:AW P w K B A cls "breaking" 87 HB:=ue L 32 (AE0 OR) ⟨(a7j L).mono,trivial⟩ trivial
def aqu:AW P w K B A cls "reads_table" 1 LP:=ju L 33 AE2 trivial trivial
def a7k:AW P w K B A cls "renumbered" 1 OS:=ju L 34 AE4 trivial trivial
end
end
def X5(e:Fd):Cq:=⟨["tree","table","other","told","row","found","number","cells"],[("cells_in",e)],[]⟩
def ABP(e:Fd)(a b c:D):ah Out:=dk 14 (X5 e) [a,b,c]
def OT:Fd:=A3 (ABP C3)
def X6(c e:Fd):Cq:=⟨["tree","table","groups","found","numbers","number","row"],[("measured",c),("cells_in",e)],[]⟩
def ABQ(c e:Fd)(a b:D):ah Out:=dk 16 (X6 c e) [a,b]
def OU:Fd:=A2 (ABQ JE C3)
def AE6(c e f:Fd):Cq:=⟨["tree","tables","table"],[("any_breakers",c),("refers_breakers",e),("groups_breakers",f)],[]⟩
def ABR(c e f:Fd)(a b:D):ah Out:=(AG AB (aa b) (AB a (.int 1))).bind λg=>(AI (AG (AA .Eq) (AB a (.int 0)) (aa (.str "any"))) ((c [a,g]).map Out.ret) (AI (AG (AA .Eq) (AB a (.int 0)) (aa (.str "refers"))) (((AF (aa a) (AF (aa g) (AF (AG AB (aa b) (AB a (.int 3))) (aa [])))).bind e).map Out.ret) ((f [a,g]).map Out.ret)))
def HC:Fd:=A2 (ABR OQ OT OU)
def X7(c e f:Fd):Cq:=⟨["tree","tables","table","found","count"],[("walked_breakers",c),("breaking",e),("sets_with_last",f)],[("BY_WALK",.tup [.str "any",.str "refers",.str "groups"])]⟩
def ABS(c e f:Fd)(a b:D):ah Out:=dk 21 (X7 c e f) [a,b]
def OV:Fd:=A2 (ABS HC HB JF)
def AE7(f g h i:Fd):Cq:=⟨["tree","before","tables","name","table"],[("reads_table",f),("walked_breakers",g),("sets_with_last",h),("breaking",i)],[("BY_WALK",.tup [.str "any",.str "refers",.str "groups"])]⟩
def ABT(f g h i:Fd)(a b c e:D):ah Out:=AI (BA (f [a,e])) (aa (.ret b)) (AI (AG (AA .In) (AB a (.int 0)) (aa (.tup [.str "any",.str "refers",.str "groups"]))) ((g [a,c]).map Out.ret) ((AB c e).bind λj=>(((AF (AG BI (aa b) ((AF (aa a) (AF (aa j) (AF ((AF (AB a (.int 0)) (AF ((AF (A8 FL "rows" (aa j)) (aa [])).bind AM) (aa []))).bind h) (aa [])))).bind i)) (aa [])).bind FE).map Out.ret)))
def LQ:Fd:=A4 (ABT LP HC JF HB)
def ABU(g h i j:Fd):Cq:=⟨["tree","before","tables","name","taken","table","left","numbers"],[("reads_table",g),("walked_breakers",h),("renumbered",i),("breaking",j)],[("BY_WALK",.tup [.str "any",.str "refers",.str "groups"])]⟩
def ABV(g h i j:Fd)(a b c e f:D):ah Out:=dk 25 (ABU g h i j) [a,b,c,e,f]
def LR:Fd:=A5 (ABV LP HC OS HB)
def X8:Cq:=⟨["numbers","signs","sign","number"],[],[("LETTERS",.str "ABCDEFGHIJKLMNOPQRSTUVWXYZabcdefghijklmnopqrstuvwxyz"),("DIGITS",.str "0123456789")]⟩
def X9(a:D):ah Out:=dk 59 X8 [a]
def TK:Fd:=A1 X9
def AE8:Cq:=⟨["text","sign"],[],[]⟩
def AE9(a:D):ah Out:=(((aa a).bind BM).bind λz=>(A6 (λd=>((N7 [d]).map aa)) z).map D.lst).map Out.ret
def TM:Fd:=A1 AE9
def AFA:Cq:=⟨["table"],[],[]⟩
def ABW(a:D):ah Out:=(AG BI ((AF (aa (.str "table")) (AF (A8 FL "name" (aa a)) (AF (A8 FL "columns" (aa a)) (aa [])))).map D.tup) (A8 FL "rows" (aa a))).map Out.ret
def TN:Fd:=A1 ABW
def YA:Cq:=⟨["day","before","behind","turns","number","breakers","was_broken","is_broken"],[],[]⟩
def ABX(a b c:D):ah Out:=dk 78 YA [a,b,c]
def OW:Fd:=A3 ABX
def AFB:Cq:=⟨["keeper","number"],[],[]⟩
def AFC(a b:D):ah Out:=(WY (aa (.int 0)) (aa b) ((AF (A8 FL "claims" (aa a)) (aa [])).bind AM)).map Out.ret
def F9:Fd:=A2 AFC
def AFD(c:Fd):Cq:=⟨["numbers","text"],[("numbers_of",c)],[("MOST_BYTES_TOLD",.int 12000)]⟩
def ABY(c:Fd)(a b:D):ah Out:=AI (AG (AA .Gt) (AM [b]) (aa (.int 12000))) (aa (.ret (.lst [.int (-8)]))) ((AG BI (aa a) (c [b])).map Out.ret)
def JG:Fd:=A2 (ABY TM)
def AFE:Cq:=⟨["keeper","breakers"],[],[]⟩
def ABZ(a:D):ah Out:=(AG BI ((AF ((AF (A8 FL "claims" (aa a)) (aa [])).bind AM) (aa [])).map D.lst) (((A8 FL "breakers" (aa a)).bind BM).bind λz=>(A6 (λd=>((AM [d]).map aa)) z).map D.lst)).map Out.ret
def OX:Fd:=A1 ABZ
def YB(c:Fd):Cq:=⟨["keeper","number","answer","numbers"],[("has_claim",c)],[]⟩
def AB0(c:Fd)(a b:D):ah Out:=dk 93 (YB c) [a,b]
def OY:Fd:=A2 (AB0 F9)
def YC:Cq:=⟨["keeper","level","answer","number","claim"],[],[("LEVELS",.tup [.int 0,.int 1,.int 2])]⟩
def AB1(a b:D):ah Out:=dk 94 YC [a,b]
def LS:Fd:=A2 AB1
def YD:Cq:=⟨["keeper","owner","answer","number","claim"],[],[]⟩
def AB2(a b:D):ah Out:=dk 95 YD [a,b]
def LU:Fd:=A2 AB2
def AFF(c:Fd):Cq:=⟨["keeper","number"],[("has_claim",c)],[]⟩
def AB3(c:Fd)(a b:D):ah Out:=AI (BA (c [a,b])) (aa (.ret (.lst [.int (-3)]))) ((AG BI ((AF ((AF (AG AB (A8 FL "histories" (aa a)) (aa b)) (aa [])).bind AM) (aa [])).map D.lst) (AG AB (A8 FL "histories" (aa a)) (aa b))).map Out.ret)
def LV:Fd:=A2 (AB3 F9)
def AFG(e:Fd):Cq:=⟨["keeper","number","most","history","count"],[("has_claim",e)],[("MOST_DRIFT",.int 1000)]⟩
def AB4(e:Fd)(a b c:D):ah Out:=AI (A7 (AA .Lt c (.int 0)) (AA .Gt c (.int 1000))) (aa (.ret (.lst [.int (-7)]))) (AI (BA (e [a,b])) (aa (.ret (.lst [.int (-3)]))) ((AG AB (A8 FL "histories" (aa a)) (aa b)).bind λf=>(AI (AG (AA .Eq) (AM [f]) (aa (.int 0))) (aa (.ret (.lst [.int (-9)]))) (((AF (AG AB (A8 FL "breakers" (aa a)) (aa b)) (aa [])).bind AM).bind λg=>(((AF (AI (AG (AA .LtE) ((AF (AG E1 (aa g) (AB f (.int (-1)))) (aa [])).bind N9) (aa c)) (aa (.int 1)) (aa (.int 0))) (AF (AB f (.int (-1))) (aa [g]))).map D.lst).map Out.ret)))))
def OZ:Fd:=A3 (AB4 F9)
section
variable{P:de}{w:c9}{K:ba}{B:Str->ah a6}{A:Heap}{cls:Str->Addr}
section
variable(L:Lk P w K B A cls)
include L
def a7l:AW P w K B A cls "refers_breakers" 2 OT:=ue L 35 (X5 C3) ⟨(ahn L).mono,trivial⟩ trivial
def a7m:AW P w K B A cls "groups_breakers" 2 OU:=ju L 36 (X6 JE C3) ⟨(a7i L).mono,(ahn L).mono,trivial⟩ trivial
def ahp:AW P w K B A cls "walked_breakers" 87 HC:=ju L 37 (AE6 OQ OT OU) ⟨(a7h L).mono,(a7l L).mono,(a7m L).mono,trivial⟩ trivial
def a7n:AW P w K B A cls "find_breakers" 88 OV:=ju L 38 (X7 HC HB JF) ⟨(ahp L).mono,(aho L).mono,(aqt L).mono,trivial⟩ ⟨L.TJ,trivial⟩
def a7o:AW P w K B A cls "breakers_behind_put" 88 LQ:=ahk L 39 (AE7 LP HC JF HB) ⟨(aqu L).mono,(ahp L).mono,(aqt L).mono,(aho L).mono,trivial⟩ ⟨L.TJ,trivial⟩
def a7p:AW P w K B A cls "breakers_behind_take" 88 LR:=a6y L 40 (ABU LP HC OS HB) ⟨(aqu L).mono,(ahp L).mono,(a7k L).mono,(aho L).mono,trivial⟩ ⟨L.TJ,trivial⟩
def a7q:AW P w K B A cls "text_of" 1 TK:=iq L 41 X8 trivial ⟨L.aqk,L.X3,trivial⟩
def a7r:AW P w K B A cls "numbers_of" 1 TM:=iq L 42 AE8 trivial trivial
def a7s:AW P w K B A cls "tree_of" 1 TN:=iq L 43 AFA trivial trivial
def a7t:AW P w K B A cls "turns_between" 1 OW:=ue L 44 YA trivial trivial
def ahq:AW P w K B A cls "has_claim" 1 F9:=ju L 45 AFB trivial trivial
def aqv:AW P w K B A cls "with_text" 2 JG:=ju L 46 (AFD TM) ⟨(a7r L).mono,trivial⟩ ⟨L.a6c,trivial⟩
def a7u:AW P w K B A cls "call_status" 1 OX:=iq L 47 AFE trivial trivial
def a7v:AW P w K B A cls "call_breakers" 2 OY:=ju L 48 (YB F9) ⟨(ahq L).mono,trivial⟩ trivial
def a7w:AW P w K B A cls "call_alerts" 1 LS:=ju L 49 YC trivial ⟨L.X4,trivial⟩
def a7x:AW P w K B A cls "call_owned" 1 LU:=ju L 50 YD trivial trivial
def a7y:AW P w K B A cls "call_history" 2 LV:=ju L 51 (AFF F9) ⟨(ahq L).mono,trivial⟩ trivial
def a7z:AW P w K B A cls "call_drift" 2 OZ:=ue L 52 (AFG F9) ⟨(ahq L).mono,trivial⟩ ⟨L.a6d,trivial⟩
end
end
def JH:ab Str->a4
 |[]=>ag
 |x::r=>r.any (λy=>decide (y=x))||JH r
def HD:ab D->ah D
 |[d]=>(F5 (aa d)).bind λl=>(match strsOf l with
  |some xs=>if xs.length<4000 then aa (.bl (JH xs))else af
  |none=>(match l with
   |[.int _]=>aa (.bl ag)
   |_=>af))
 |_=>af
def GB:ak->ab D->ab Key->ab D->ah D
 |_,[],ks,l=>aa (.d8 ks l)
 |i,.tup (x::_)::r,ks,l=>(keyOf x).bind λk=>GB (i+1) r (D1 ks k) (E4 ks l k (.int i))
 |_,_::_,_,_=>af
def EY:ab D->ah D
 |[n,.tup cs,r]=>if cs.length<4000 then(GB 0 cs [] []).map λp=>.obj "Table" ["name","columns","rows","places"] [n,.tup cs,r,p]else af
 |_=>af
def TQ:ab D->ah D
 |[l,o,t]=>aa (.obj "Claim" ["level","owner","tree"] [l,o,t])
 |_=>af
def AB5:DL.Ctx:=Cq.c ⟨["text","unclosed","piece","closed","leaf"],[("read_leaf",LO)],[("MOST_BYTES",.int 4000),("MOST_DEEP",.int 40)]⟩
def D2:Stmt:=top 64
def O1:ab Stmt:=match(BC D2).getD 2 (.Pass ⟨0,0,0,0⟩)with
 |.For _ _ b _ _=>b
 |_=>[]
def GP(d:D)(ξ:ab Sl):ah Out:=BP AB5 (AO D2) 20 (ξ.set 2 (.val d)) O1 λξ3=>aa (.next ξ3)
def IG(ξ:ab Sl):ah Out:=BP AB5 (AO D2) 20 ξ [(BC D2).getD 3 (.Pass ⟨0,0,0,0⟩)] λj=>af
def HE(x:Str):ab Str:=JZ (su (su x "(" " ( ") ")" " ) ")
def O6:ab D->ah D
 |[.str x]=>if 4000<x.length then(if x.length<=aw then aa .bj else af)else AK (BO (AU GP ((HE x).map D.str) [.val (.str x),.gg [[]],.no,.no,.no]) IG)
 |_=>af
def AFH(b:Fd):Cq:=⟨["columns","column"],[("has_double",b)],[]⟩
def AFI(b:Fd)(a:D):ah Out:=AI ((AF (((aa a).bind BM).bind λz=>(A6 (λd=>((AB d (.int 0)).map aa)) z).map D.lst) (aa [])).bind b) (aa (.ret (.bl ae))) (((AF (((aa a).bind BM).bind λz=>(A6 (λd=>(((AF (BZ (AB d (.int 1)) (aa (aa (.int 1))) af) (aa [])).bind b).map aa)) z).map D.lst) (aa [])).bind anyF).map Out.ret)
def TR:Fd:=A1 (AFI HD)
def AFJ(b:Fd):Cq:=⟨["text","trees"],[("read_trees",b)],[]⟩
def AB6(b:Fd)(a:D):ah Out:=(b [a]).bind λc=>(AI (A7 (AA .Is c .bj) (AG (AA .NotEq) (AM [c]) (aa (.int 1)))) (aa (.ret .bj)) ((AB c (.int 0)).map Out.ret))
def HF:Fd:=A1 (AB6 O6)
def AB7(b:Fd):Cq:=⟨["trees","tree"],[("written",b)],[]⟩
def YE(b:Fd)(a:D):ah Out:=dk 67 (AB7 b) [a]
def AFK(b:Fd):Cq:=⟨["tree"],[("written_trees",b)],[]⟩
def YF(b:Fd)(a:D):ah Out:=AI (BJ [a,.ty "tuple"]) ((AG BI (AG BI (aa (.str "(")) (b [a])) (aa (.str ")"))).map Out.ret) ((HX [a]).map Out.ret)
mutual
def IH:ai->Fd
 |0=>λj=>af
 |n+1=>A1 (YF (GQ n))
def GQ:ai->Fd
 |0=>λj=>af
 |n+1=>A1 (YE (IH n))
end
def AFL(b c:Fd):Cq:=⟨["keeper"],[("written_trees",b),("with_text",c)],[("MOST_TURNS_TOLD",.int 100)]⟩
def AB8(b c:Fd)(a:D):ah Out:=((AF ((AF ((AF (A8 FL "turns" (aa a)) (aa [])).bind AM) (aa [])).map D.lst) (AF ((AF (BZ (A8 FL "turns" (aa a)) (aa (K3 (aa (.int 100)))) af) (aa [])).bind b) (aa []))).bind c).map Out.ret
def O7:Fd:=A1 (AB8 (GQ 99) JG)
def AFM(c e f:Fd):Cq:=⟨["keeper","name"],[("tree_of",c),("written",e),("with_text",f)],[]⟩
def AB9(c e f:Fd)(a b:D):ah Out:=AI (AG (AA .NotIn) (aa b) (A8 FL "tables" (aa a))) (aa (.ret (.lst [.int (-3)]))) (((AF (aa (.lst [])) (AF ((AF ((AF (AG AB (A8 FL "tables" (aa a)) (aa b)) (aa [])).bind c) (aa [])).bind e) (aa []))).bind f).map Out.ret)
def LW:Fd:=A2 (AB9 TN (IH 99) JG)
noncomputable def ef(s:Stmt)(p:ab Str)(q:Cq)(e:ab (Str×eu))(m:ab (Str×Str×eu)):eu:=GN q.c ⟨FJ e,E6 m⟩ (AO s) 24 p (BC s)
def ACA:eu:=ef (inClass (top 116) 1) ["self"] ⟨["self"],[],[]⟩ [] []
def CO:eu:=ef (inClass (top 116) 2) ["self"] ⟨["self"],[],[]⟩ [] []
def CP:eu:=ef (inClass (top 116) 3) ["self"] ⟨["self","start"],[("text_of",TK)],[]⟩ [] []
def E7:eu:=ef (top 76) ["keeper"] ⟨["keeper","step"],[],[("MOST_STEPS",.int 10)]⟩ [] []
def GS:eu:=ef (top 77) ["keeper","table"] ⟨["keeper","table","tables"],[],[]⟩ [] []
def HG:eu:=ef (top 79) ["keeper","breakers"] ⟨["keeper","breakers","turns","broken","turn"],[("turns_between",OW)],[]⟩ [] []
def LX:eu:=ef (top 80) ["keeper","text"] ⟨["keeper","text","tree","table"],[("read_tree",HF),("Table",EY),("tells_twice",TR),("is_table",TC),("rows_fit",TF)],[("MOST_TABLES",.int 3)]⟩ [("remember",E7),("hold_table",GS)] []
def LY:eu:=ef (top 81) ["keeper","level","owner","text"] ⟨["keeper","level","owner","text","tree","found"],[("read_tree",HF),("find_breakers",OV),("is_word",LN),("is_claim",ON),("is_there",S8),("Claim",TQ)],[("LEVELS",.tup [.int 0,.int 1,.int 2]),("MOST_CLAIMS",.int 12),("MOST_CLAIM_BYTES",.int 700)]⟩ [("remember",E7),("hold_breakers",HG)] []
def LZ:eu:=ef (top 82) ["keeper","name","text"] ⟨["keeper","name","text","row","table","breakers","claim","before"],[("read_tree",HF),("is_row",IE),("row_fits",IF),("Table",EY),("breakers_behind_put",LQ)],[("MOST_ROWS",.int 40)]⟩ [("remember",E7),("hold_table",GS),("hold_breakers",HG)] []
def L1:eu:=ef (top 83) ["keeper","number","name"] ⟨["keeper","number","name","table","left","breakers","claim","before"],[("Table",EY),("breakers_behind_take",LR)],[]⟩ [("remember",E7),("hold_table",GS),("hold_breakers",HG)] []
def L4:eu:=ef (top 84) ["keeper"] ⟨["keeper","counts","breakers","history","count"],[],[]⟩ [("remember",E7)] []
def L5:eu:=ef (top 85) ["keeper"] ⟨["keeper","step"],[],[]⟩ [] []
def O8:eu:=ef (top 117) ["keeper","cursor"] ⟨["keeper","cursor","level","owner"],[],[]⟩ [("call_claim",LY)] [("Cursor","read_number",CO),("Cursor","read_text",CP)]
def O9:eu:=ef (top 118) ["keeper","cursor"] ⟨["keeper","cursor","name"],[],[]⟩ [("call_put",LZ)] [("Cursor","read_text",CP)]
def PB:eu:=ef (top 119) ["keeper","cursor"] ⟨["keeper","cursor","number"],[],[]⟩ [("call_take",L1)] [("Cursor","read_number",CO),("Cursor","read_text",CP)]
def PC:eu:=ef (top 120) ["keeper","cursor"] ⟨["keeper","cursor","number"],[],[]⟩ [("call_drift",DM OZ)] [("Cursor","read_number",CO)]
def FT:eu:=ef (top 121) ["call","keeper","cursor"] ⟨["call","keeper","cursor"],[],[("TABLE",.int 0),("CLAIM",.int 1),("PUT",.int 2),("TAKE",.int 3),("DAY",.int 9),("UNDO",.int 13)]⟩ [("call_table",LX),("answer_claim",O8),("answer_put",O9),("answer_take",PB),("call_day",L4),("call_undo",L5)] [("Cursor","read_text",CP)]
def FU:eu:=ef (top 122) ["call","keeper","cursor"] ⟨["call","keeper","cursor"],[],[("STATUS",.int 4),("BREAKERS",.int 5),("ALERTS",.int 6),("OWNED",.int 7),("TURNS",.int 8),("HISTORY",.int 10),("DRIFT",.int 11),("SHOWN",.int 12)]⟩ [("call_status",DM OX),("call_breakers",DM OY),("call_alerts",DM LS),("call_owned",DM LU),("call_turns",DM O7),("call_history",DM LV),("answer_drift",PC),("call_shown",DM LW)] [("Cursor","read_number",CO),("Cursor","read_text",CP)]
def PD:eu:=ef (top 123) ["keeper","cursor"] ⟨["keeper","cursor","call","answer"],[],[]⟩ [("answer_change",FT),("answer_telling",FU)] [("Cursor","read_number",CO)]
end CK
namespace CK
open PySem PySem.Spec PyProof.Rows L2 DL
def L6:Stmt:=inClass (top 74) 0
def a70:iz ["self","level","owner","tree"] ["self","level","owner","tree"] (AO L6):=(by decide+kernel)
def a71(l o t:D):GN {N:=["self","level","owner","tree"],cls:=λj=>0,k:=0,fields:=FL,eg:=DI [],gq:=DJ []} ⟨FJ [],E6 []⟩ (AO L6) 24 ["self","level","owner","tree"] (BC L6) [.m "Claim" [] [],.d l,.d o,.d t]=aa ([(([("level":Str),"owner","tree"]:ab Str),[l,o,t])],D.bj):=by rfl
section
variable{P:de}{w:c9}{K:ba}{B:Str->ah a6}{A:Heap}{cls:Str->Addr}
def a72(j:FN K B (cls "Claim") "Claim" L6 ["self","level","owner","tree"])(L:Lk P w K B A cls):AW P w K B A cls "Claim" 2 TQ:=by
 show a5x (k:=0) (n:=24) j a70 (fs:=[]) trivial (cs:=[]) trivial L.fl L.bl λds r h=>?_;match ds,h with
 |[l,o,t],h=>cases h;show gk _ _ rfl (a71 l o t)
end
section
variable{P:de}{w:c9}{K:ba}{B:Str->ah a6}{A:Heap}{cls:Str->Addr}
section
variable(L:Lk P w K B A cls)
include L
def ahr:∀n,AW P w K B A cls "written" n (IH n)/\AW P w K B A cls "written_trees" n (GQ n)
 |0=>⟨zy (L.g 57),zy (L.g 58)⟩
 |n+1=>have h:=ahr n
  ⟨iq L 57 (AFK (GQ n)) ⟨h.2,trivial⟩ trivial (S:=⟨rfl,rfl,rfl,ff rfl,rfl,by decide+kernel,by decide+kernel⟩),iq L 58 (AB7 (IH n)) ⟨h.1,trivial⟩ trivial (S:=⟨rfl,rfl,rfl,ff rfl,rfl,by decide+kernel,by decide+kernel⟩)⟩
def a73:AW P w K B A cls "written" 99 (IH 99):=(ahr L 99).1
def a74:AW P w K B A cls "written_trees" 99 (GQ 99):=(ahr L 99).2
end
end
structure Lq(P:de)(w:c9)(K:ba)(B:Str->ah a6)(A:Heap)(cls:Str->Addr):Prop where
 L:Lk P w K B A cls
 iC:FN K B (cls "Claim") "Claim" L6 ["self","level","owner","tree"]
 a75:ID K (cls "Cursor") "Cursor" "at_end" (inClass (top 116) 1) ["self"]
 a76:ID K (cls "Cursor") "Cursor" "read_number" (inClass (top 116) 2) ["self"]
 a77:ID K (cls "Cursor") "Cursor" "read_text" (inClass (top 116) 3) ["self"]
structure Lh(P w K B A cls):Prop extends Lq P w K B A cls where
 t:AW P w K B A cls "Table" 2 EY
 hd:AW P w K B A cls "has_double" 1 HD
 rt:AW P w K B A cls "read_trees" 3 O6
section
variable{P:de}{w:c9}{K:ba}{B:Str->ah a6}{A:Heap}{cls:Str->Addr}
def xd{x:Str}{k:ai}{g:ab D->ah D}{st:Stmt}{ps:ab Str}(h:AW P w K B A cls x k g)(hF:G9 K B x st ps):AA6 P w K B A cls x k g:=by
 obtain h|⟨C,f,fd,ps,j,h1,h2,_⟩:=h;.show h
 .show b7 hF λf' fd' F e _=>iy F.ex λ_ _ q=>iy q λ_ _ W=>iy W λ_ _ zq1_3=>kj zq1_3 λ_ _ _ _ lk _=>?_;clear q W zq1_3;rw[h1]at e;cases e;let:=h2.makes;delta ZA at this;rw[lk]at this;cases this
section
variable(Z:Lh P w K B A cls)
include Z
def a78:AW P w K B A cls "tells_twice" 2 TR:=iq Z.L 54 (AFH HD) ⟨Z.hd.mono,trivial⟩ trivial
def ahs:AW P w K B A cls "read_tree" 4 HF:=iq Z.L 56 (AFJ O6) ⟨Z.rt.mono,trivial⟩ trivial
def a79:AW P w K B A cls "call_turns" 100 O7:=iq Z.L 59 (AFL (GQ 99) JG) ⟨(a74 Z.L).mono,(aqv Z.L).mono,trivial⟩ ⟨Z.L.a6f,trivial⟩
def a8a:AW P w K B A cls "call_shown" 100 LW:=ju Z.L 60 (AFM TN (IH 99) JG) ⟨(a7s Z.L).mono,(a73 Z.L).mono,(aqv Z.L).mono,trivial⟩ trivial
end
def k9{k N fs cs es ms}(L:Lk P w K B A cls)(j)(x:EU P w K B A cls k fs)(y:EV K B cls cs)(z:LH P w K B A cls k es)(u:LI P w K B A cls k ms)(h:j<HL.length:=by decide)(S:iz N (hl j).2.2 (AO (top (hl j).1)):=by decide+kernel):CA P w K B A cls (hl j).2.1 (k+1) (ef (top (hl j).1) (hl j).2.2 ⟨N,fs,cs⟩ es ms):=a5u (L.g j h) S x y z u L.fl L.bl
section
variable(Z:Lh P w K B A cls)
include Z
def a8b:F6 P w K B A cls "Cursor" "at_end" 1 ACA:=ahg (k:=0) Z.a75 (by decide+kernel) trivial trivial trivial trivial Z.L.fl Z.L.bl
def acb:F6 P w K B A cls "Cursor" "read_number" 1 CO:=ahg (k:=0) Z.a76 (by decide+kernel) trivial trivial trivial trivial Z.L.fl Z.L.bl
def acd:F6 P w K B A cls "Cursor" "read_text" 2 CP:=ahg (k:=1) Z.a77 (by decide+kernel) ⟨(a7q Z.L).mono,trivial⟩ trivial trivial trivial Z.L.fl Z.L.bl
def ace:CA P w K B A cls "remember" 1 E7:=k9 Z.L 61 trivial ⟨Z.L.a6g,trivial⟩ trivial trivial
def aht:CA P w K B A cls "hold_table" 1 GS:=k9 Z.L 62 trivial trivial trivial trivial
def ahu:CA P w K B A cls "hold_breakers" 2 HG:=k9 Z.L 63 ⟨(a7t Z.L).mono,trivial⟩ trivial trivial trivial
def a8c:CA P w K B A cls "call_table" 5 LX:=k9 Z.L 64 ⟨(ahs Z).mono,Z.t.mono,(a78 Z).mono,(a7c Z.L).mono,(a7e Z.L).mono,trivial⟩ ⟨Z.L.a6h,trivial⟩ ⟨(ace Z).mono,(aht Z).mono,trivial⟩ trivial
def a8d:CA P w K B A cls "call_claim" 89 LY:=k9 Z.L 65 ⟨(ahs Z).mono,(a7n Z.L).mono,(aqs Z.L).mono,(a64 Z.L).mono,(a67 Z.L).mono,(a72 Z.iC Z.L).mono,trivial⟩ ⟨Z.L.X4,Z.L.a6i,Z.L.a6j,trivial⟩ ⟨(ace Z).mono,(ahu Z).mono,trivial⟩ trivial
def a8e:CA P w K B A cls "call_put" 89 LZ:=k9 Z.L 66 ⟨(ahs Z).mono,(aqq Z.L).mono,(aqr Z.L).mono,Z.t.mono,(a7o Z.L).mono,trivial⟩ ⟨Z.L.aqj,trivial⟩ ⟨(ace Z).mono,(aht Z).mono,(ahu Z).mono,trivial⟩ trivial
def a8f:CA P w K B A cls "call_take" 89 L1:=k9 Z.L 67 ⟨Z.t.mono,(a7p Z.L).mono,trivial⟩ trivial ⟨(ace Z).mono,(aht Z).mono,(ahu Z).mono,trivial⟩ trivial
def a8g:CA P w K B A cls "call_day" 2 L4:=k9 Z.L 68 trivial trivial ⟨(ace Z).mono,trivial⟩ trivial
def a8h:CA P w K B A cls "call_undo" 1 L5:=k9 Z.L 69 trivial trivial trivial trivial
def a8i:CA P w K B A cls "answer_claim" 90 O8:=k9 Z.L 70 trivial trivial ⟨(a8d Z).mono,trivial⟩ ⟨(acb Z).mono,(acd Z).mono,trivial⟩
def a8j:CA P w K B A cls "answer_put" 90 O9:=k9 Z.L 71 trivial trivial ⟨(a8e Z).mono,trivial⟩ ⟨(acd Z).mono,trivial⟩
def a8k:CA P w K B A cls "answer_take" 90 PB:=k9 Z.L 72 trivial trivial ⟨(a8f Z).mono,trivial⟩ ⟨(acb Z).mono,(acd Z).mono,trivial⟩
def a8l:CA P w K B A cls "answer_drift" 3 PC:=k9 Z.L 73 trivial trivial ⟨(xa (xd (a7z Z.L) (Z.L.g 52))).mono,trivial⟩ ⟨(acb Z).mono,trivial⟩
def a8m:CA P w K B A cls "answer_change" 91 FT:=k9 Z.L 74 trivial ⟨Z.L.a6k,Z.L.a6l,Z.L.a6m,Z.L.a6n,Z.L.a6o,Z.L.a6p,trivial⟩ ⟨(a8c Z).mono,(a8i Z).mono,(a8j Z).mono,(a8k Z).mono,(a8g Z).mono,(a8h Z).mono,trivial⟩ ⟨(acd Z).mono,trivial⟩
def a8n:CA P w K B A cls "answer_telling" 101 FU:=k9 Z.L 75 trivial ⟨Z.L.a6q,Z.L.a6r,Z.L.a6s,Z.L.a6t,Z.L.a6u,Z.L.a6v,Z.L.a6w,Z.L.a6x,trivial⟩ ⟨(xa (xd (a7u Z.L) (Z.L.g 47))).mono,(xa (xd (a7v Z.L) (Z.L.g 48))).mono,(xa (xd (a7w Z.L) (Z.L.g 49))).mono,(xa (xd (a7x Z.L) (Z.L.g 50))).mono,(xa (xd (a79 Z) (Z.L.g 59))).mono,(xa (xd (a7y Z.L) (Z.L.g 51))).mono,(a8l Z).mono,(xa (xd (a8a Z) (Z.L.g 60))).mono,trivial⟩ ⟨(acb Z).mono,(acd Z).mono,trivial⟩
def a8o:CA P w K B A cls "answer_call" 102 PD:=k9 Z.L 76 trivial trivial ⟨(a8m Z).mono,(a8n Z).mono,trivial⟩ ⟨(acb Z).mono,trivial⟩
end
end
end CK
namespace DL
open PySem PySem.Spec PyProof.Rows L2
def aqw:∀(l)(S)(n),F8 S n l=n+l.length↔(∀k∈l,S k=ag)/\l.Nodup
 |[],S,n=>by simp[F8]
 |k::r,S,n=>by
  rw[F8,d6];by_cases h:S k=ae;.grind[ahh]
  .rw[ao h,show n+(r.length+1)=n+1+r.length from yL,aqw r];grind
def YG:V->ah Key
 |.int i=>aa (.inl i)
 |.str x=>aa (.inr x)
 |_=>af
set_option tactic.hygienic true in
def aqx(r:Vals xs us)(h:b6 (λv k=>YG v=aa k) xs ks):b6 (λu k=>D4 k u=ae) us ks:=by
 induction r generalizing ks with
 |nil=>cases h;show .nil
 |cons h1 h2 ih=>
  cases h with
  |cons g1 g2=>
   show .cons ?_ (ih g2);ext v u _ _ _ _;cases v<;>cases g1;.let⟨t,rfl⟩:=h1;show afd _ _
   .let⟨t,rfl⟩:=h1;show afe _ _
section
variable{X:Cx}{e:Expr}{B:L2.TE}{p p2 pos A:Pos}
def a8p(ha:PE X e B)(g1:Gl X "len")(m1:X.mg "len"=af)(g2:Gl X "set")(m2:X.mg "set"=af)(hd:X.A.handled=af)(hs:ed [e] X.env=[(ag,eval e X.env)]:=by rfl):
 PE X (.Call (.Name "len" p) [.Call (.Name "set" p2) [e] [] A] [] pos) (λσ H Q=>B σ H λv H1=>∃a xs ks,v=.ref a/\(AR X.K H1 a xs\/AS X.K H1 a xs)/\b6 (λv k=>YG v=aa k) xs ks/\xs.length+1<yn/\Q (.int (F8 (λζ=>ag) 0 ks)) H1):=by
 show λpins s σ H Q I h=>JS (o9 I g1 m1 (u:=.builtin "len") (by decide+kernel) (avd (JR (bg (Q:=λu s'=>∃a H' S n,Inv X pins σ H' s'/\u=.ref a/\s'.heap.SetOf (B8 X.prog X.w) a S n/\n<yn/\Q (.int n) H') ?_ λu s1 h1=>?_)) rfl rfl))
 .show JS (o9 I g2 m2 (u:=.type "set") bnh (JN ?_ hs rfl));erw[hs,JR (bg (ha pins s σ H _ I h) λu s1 z=>QY λz3=>?_)];let⟨v,H1,I1,r1,a,xs,ks,ev,sq,ek,hb,q⟩:=z;apply z3.f;show QJ (QY λz2=>?_);clear z3;subst ev;obtain rfl:u=.ref a:=r1;let past:∀{its:ab a6},Vals xs its->SX X.prog X.w s1 _ λu s'=>∃a H' S n,Inv X pins σ H' s'/\u=.ref a/\s'.heap.SetOf (B8 X.prog X.w) a S n/\n<yn/\Q (.int n) H':=λζ h' tk S hS hk=>by let:=ahh ks (λζ=>ag) 0;show vb _ H1 S _ (I1.kept λb o e=>hk b o (ec e) e) rfl hS (by let:=ek.len;lia) q
  obtain sq|sq:=sq;.apply z2.f;show QY λz1=>bz (I1.list sq) λits r zq7_1 _=>fg zq7_1 λo n o1 o2 o3 o4=>?_;apply z1.f;show a50 hd (lx o o1 o2 n o4) (aqx r ek) (by let:=ek.len;lia) (past r)
  .apply z2.f;show QY λz0=>bz (I1.tuple sq) λits r zq5_1 _=>j7 zq5_1 λo o1 o2 n o4=>?_;apply z0.f;show a51 hd (lx o o1 o2 n o4) (aqx r ek) (by let:=ek.len;lia) (past r)
 .show QY λzz=>nh h1 λa H' S n I' zq3_1 j hn q=>lh j λo es ep t x1 x2 x3 x4 x5 x6 W=>xA W λx7 x8=>?_;clear h1 j W;subst zq3_1;apply zz.f;show QJ ?_;subst x8;show call_len_set x1 x2 x3 x7 (by delta yn at hn;lia) ⟨.int es.size,H',(I'.tok _),⟨_,rfl⟩,q⟩
end
end DL
namespace CK
open PySem PySem.Spec PyProof.Rows L2 DL
def aqy:∀xs,JH xs=ae↔¬xs.Nodup
 |[]=>yD
 |x::r=>by rw[JH,jb,aqy r,gd,aju];lia
def aqz{xs:ab Str}:(xs.map (xu:Str->Key)).Nodup↔xs.Nodup:=by grind
set_option tactic.hygienic true in
def a8q(h:(match strsOf l with
 |some xs=>if xs.length<4000 then aa (D.bl (JH xs))else af
 |none=>(match l with
  |[.int _]=>aa (.bl ag)
  |_=>af))=aa d):∃ks:ab Key,l.map keyOf=ks.map aa/\l.length<4000/\d=.bl (!decide ((F8 (λζ=>ag) 0 ks:ak)=l.length)):=by
 k_lt h
 .ext xs hx;let e:=ant hx;subst e;k_lt h
  .ext hl;injection h with h;subst h;show⟨xs.map .inr,by rw[el,el];rfl,by erw[bt,hl],?_⟩;congr 1;rw[bt,oj,aqy,ajo,decide_eq_false_iff_not];let k:=aqw (xs.map .inr) (λζ=>ag) 0;rw[bt,ND]at k;constructor;.intro hn hc;let:=(k.mp (by exact_mod_cast hc)).2;show hn (aqz.mp this)
   .show λhc hn=>hc (by exact_mod_cast(k.mpr ⟨λζ ζ=>rfl,aqz.mpr hn⟩))
  .trivial
 .k_lt h;.cases h;show et [.inl _] rfl (by change 1<4000;decide) rfl
  .trivial
def aa3{K}:∀{vs}{l}{ks},AJ K cls H vs l->l.map keyOf=ks.map aa->b6 (λv k=>YG v=aa k) vs ks
 |_,[],ks,h,e=>by
  cases h;cases ks with
  |nil=>show .nil
  |cons _ _=>trivial
 |_,d::l,ks,h,e=>by
  show b7 h λ_ _ j h1 h2=>?_;clear h;subst j;cases ks with
  |nil=>trivial
  |cons k ks=>simp[b9,bjb]at e;show .cons ?_ (aa3 h2 e.2);let q:=e.1;clear e;cases h1.e<;>first|trivial
def a8r:iz ["things"] ["things"] (AO (top 47)):=(by decide+kernel)
section
variable{P:de}{w:c9}{K:ba}{C:Str->ah a6}{B:Heap}{cls:Str->Addr}
def a8s(L:Lk P w K C B cls):AW P w K C B cls "has_double" 1 HD:=by
 show fg (show G9 K C "has_double" (top 47) ["things"]from L.g 53) λf fd F h1 h2 h3=>.inl (o7 f fd ["things"] h1 h2 h3 (F.ok a8r (λvs H Q E W=>?_) (λcdv A outer s H vs Q E hr W=>?_)));.let⟨O,ds,d,hO,hd,hg,a⟩:=W;match ds,hg with
  |[x],hg=>show hd.length
 .let⟨O,ds,d,hO,hd,hg,a⟩:=W;match ds,hg,hd with
  |[x],hg,⟨v,_,e1,hd,e2⟩=>
   cases e2;cases e1;let⟨l,hl,hg⟩:=ay hg;show bz (a8q hg) λks hk hlen j=>?_;subst j;let hq:∃p xs,v=.ref p/\(AR K H p xs\/AS K H p xs)/\AJ K cls H xs l:=by
    obtain e|e:=apk hl;.cases e;let⟨_,_,rfl,g1,g2⟩:=hd;show⟨_,_,rfl,.inl (.inl (.inl (cq _ _ _ _ g1))),g2.all⟩
    .cases e;let⟨_,_,rfl,g1,g2⟩:=hd;show⟨_,_,rfl,.inr (AS.same (cq _ _) g1),g2.all⟩
   let⟨p,xs,rfl,sq,dx⟩:=hq;let xl:xs.length=l.length:=dx.length;let q:KG (AO (top 47)) "things":=zx (by decide+kernel);let g1:(AO (top 47)).names.lookup ("len":Str)=aa .globalImplicit:=vo (by decide+kernel);let g2:(AO (top 47)).names.lookup ("set":Str)=aa .globalImplicit:=vo (by decide+kernel);show ap _ (zg (abo (ak6 ayr (a8p (js (i:=0) rfl q) g1 (L.bl _ yD) g2 (L.bl _ yD) hr.hd) (t9 abr g1 (L.bl _ yD) (by decide+kernel) (gc (js (i:=0) rfl q) fx)) rfl))) ⟨.ref p,rfl,p,xs,ks,rfl,sq,aa3 dx hk,by delta yn;omega,.ref p,rfl,p,xs,rfl,sq,_,_,rfl,rfl,?_⟩;erw[xl,a _ _ (AH.refl H) ?_];show .bl _
end
def HJ:Stmt:=inClass (top 39) 0
def ahv:iz ["self","name","columns","rows","place","column"] ["self","name","columns","rows"] (AO HJ):=(by decide+kernel)
section
variable{P:de}{w:c9}{K:ba}{C:Str->ah a6}{B:Heap}{cls:Str->Addr}
def a8t:WI (.Constant (.int i) j pos):=λq q=>rfl
def a8u(h:GB i (c::r) ks l=aa p):∃j q k,c=.tup (j::q)/\keyOf j=aa k/\GB (i+1) r (D1 ks k) (E4 ks l k (.int i))=aa p:=by
 obtain _|_|_|_|_|(_|⟨j,q⟩):=c<;>w_top h
 let⟨k,h1,h2⟩:=ay h;show zb j q k rfl h1 h2
def TW(K:ba)(cls:Str->Addr)(H:Hp)(cs:ab D)(x dx ca W:Addr)(vn vr:V)(p:D):ai->ai->L2.St->Hp->Prop:=
 λi m j H'=>m=cs.length-i/\i<=cs.length/\j[0]?=aa (aa (.ref x))/\j.length=6/\∃kvs q,(∀b o,b≠x->H b=aa o->H' b=aa o)/\H' x=aa (.ins (cls "Table") dx [("name",vn),("columns",.ref ca),("rows",vr),("places",.ref W)])/\H' W=aa (.dK kvs)/\
  (∀H2,AJ K cls H2 (kvs.map (·.2)) q)/\GB i (cs.drop i) (kvs.map (·.1)) q=aa p/\kvs.length<=i
set_option tactic.hygienic true in
def a8v(hI:FN K C (cls "Table") "Table" HJ ["self","name","columns","rows"])(L:Lk P w K C B cls):AW P w K C B cls "Table" 2 EY:=by
 show j6 hI λh0 f fd F h1 h3=>.inr ⟨cls "Table",f,fd,_,1,h0,h1,h3,b8 _,F.ok ahv (λvs H Q E hs=>?_) (λcdv A outer s H vs Q E hr hs=>?_)⟩
 .let⟨O,ds,r,x,dx,ws,rfl,hx,hOx,hO,hd,hg,q⟩:=hs;rw[d6,hd.length];obtain _|⟨_,_|⟨d,l⟩⟩:=ds<;>w_top hg
  cases d<;>w_top hg
  obtain _|⟨_,_|_⟩:=l<;>w_top hg
  rfl
 .let⟨O,ds,r,x,dx,ws,rfl,hx,hOx,hO,hd,hg,q⟩:=hs;obtain _|⟨dn,_|⟨d,l⟩⟩:=ds<;>w_top hg
  cases d<;>w_top hg
  ext cs;obtain _|⟨dr,_|_⟩:=l<;>w_top hg
  show b7 hd λvn _ zq11_1 d1 W=>b7 W λvc _ zq11_3 d2 zq11_4=>b7 zq11_4 λvr _ zq11_5 d3 e4=>?_;clear hd W zq11_4;subst zq11_1;subst zq11_3;subst zq11_5;cases e4;let nt:∀{y:Str},GH (AO HJ) y=ae->KG (AO HJ) y:=λh=>zx h;let gl:(AO HJ).names.lookup ("enumerate":Str)=aa .globalImplicit:=vo (by decide+kernel);let v0:=nt (y:="self") (by decide+kernel);let v1:=nt (y:="name") (by decide+kernel);let v2:=nt (y:="columns") (by decide+kernel);let v3:=nt (y:="rows") (by decide+kernel);let v4:=nt (y:="place") (by decide+kernel);let v5:=nt (y:="column") (by decide+kernel);let l4:Loc (AO HJ) "place":=.inl (by decide+kernel);let l5:Loc (AO HJ) "column":=.inl (by decide+kernel);show ap _ (j9 (pb (js (i:=0) rfl v0) (js (i:=1) rfl v1) rfl) (j9 (pb (js (i:=0) rfl v0) (js (i:=2) rfl v2) rfl) (j9 (pb (js (i:=0) rfl v0) (js (i:=3) rfl v3) rfl) (j9 (pb (js (i:=0) rfl v0) ams rfl) (zg (afo yk rfl (EN.aoh gl (L.bl _ yD) (gc (js (i:=2) rfl v2) fx)) (afl rfl (aaw (wu (i:=4) ahv.nd rfl l4 (.inl rfl)) (aaw (wu (i:=5) ahv.nd rfl l5 (.inl rfl)) afk))) (zg (amq (aft (js (i:=0) rfl v0) rfl) (afy alz (js (i:=5) rfl v5) abm a8t) (js (i:=4) rfl v4) rfl)) λζ=>rfl)))))) ?_;let hc:∀fl:Str,(("Table":Str),fl)∈FL->fy K (cls "Table")/\BG K (cls "Table") fl:=λfl h=>L.fl "Table" fl h;let cN:=hc "name" yD;let cC:=hc "columns" yD;let cR:=hc "rows" yD;let cP:=hc "places" yD;cases d2.e with
  |@tup ca xs _ sq dxs=>
  replace hg:(if cs.length<4000 then(GB 0 cs [] []).map λp=>D.obj "Table" ["name","columns","rows","places"] [dn,.tup cs,dr,p]else af)=aa r:=hg;k_lt hg;case isFalse=>show nn hg
  case isTrue hlen=>
  let⟨p,hp,rfl⟩:=bo hg;show⟨vn,rfl,.ref x,rfl,x,cls "Table",dx,[],rfl,hx,cN.1,cN.2,yD,⟨.ref ca,rfl,.ref x,rfl,x,cls "Table",dx,[("name",vn)],rfl,cy,cC.1,cC.2,by change 1<1000;decide,⟨vr,rfl,.ref x,rfl,x,cls "Table",dx,[("name",vn),("columns",.ref ca)],rfl,cy,cR.1,cR.2,by change 2<1000;decide,?_⟩⟩⟩;let same:∀{H':Hp},(∀b o,b≠x->H b=aa o->H' b=aa o)->AH (rs O H) H':=fun{H'}hk b o e=>by
   delta rs at e;k_lt e;.show nn e
   .ext hO';show hk b o (λz=>hO' (by erw[z,hOx])) e
  let xl:xs.length=cs.length:=dxs.length;intro pd hpd;let hne:x≠pd:=λz=>by rw[<-z,cy]at hpd;cases hpd
  let hpd0:H pd=none:=by rw[a9 hne.symm,a9 hne.symm,a9 hne.symm]at hpd;show hpd
  show⟨.ref x,rfl,x,cls "Table",dx,[("name",vn),("columns",.ref ca),("rows",vr)],rfl,by erw[a9 hne,cy],cP.1,cP.2,by change 3<1000;decide,⟨.ref ca,rfl,ca,xs,rfl,?_,TW K cls H cs x dx ca pd vn vr p,?_,?_⟩⟩
  .show AS.same (same λb o hb e=>?_) sq;let hbp:b≠pd:=λz=>by rw[z,hpd0]at e;cases e
   erw[a9 hb,a9 hbp,a9 hb,a9 hb,a9 hb,e]
  .show⟨_,rfl,gv _,rfl,rfl,[],[],λb o hb e=>?_,cy,by erw[a9 hne.symm,cy],λζ=>.nil,hp,b8 _⟩;let hbp:b≠pd:=λz=>by rw[z,hpd0]at e;cases e
   erw[a9 hb,a9 hbp,a9 hb,a9 hb,a9 hb,e]
  .show λi m σ' H' zq9_1=>jc zq9_1 λzq9_2 hi s0 sl zq9_3=>lg zq9_3 λkvs ds' hk hx' hpd' dv zq9_4=>xA zq9_4 λhpl hkl=>?_;clear zq9_1 zq9_3 zq9_4;subst zq9_2;let sq':AS K H' ca xs:=AS.same (same hk) sq;by_cases hlt:i<cs.length
   .obtain⟨c,hcd⟩:∃c,cs.drop i=c::cs.drop (i+1):=⟨_,yi hlt⟩;let hci:cs[i]?=aa c:=by let:=List.getElem?_drop (xs:=cs) (i:=i) (j:=0);rw[hcd]at this;simpa using this.symm
    show au (dxs.get hci) λvi hvi di=>?_;rw[hcd]at hpl;show .inr ⟨(gk xs vi sq' hvi),TW K cls H cs x dx ca pd vn vr p (i+1) (cs.length-(i+1)),λσ3 H3 z=>⟨_,yL,z⟩,?_⟩
    .show λ_ _ zq4_1=>fg zq4_1 λT y zq4_2 hT zq4_3 hy=>?_;clear zq4_1;subst zq4_2;subst zq4_3;obtain rfl:vi=y:=by let:=hy xs sq';rw[hvi]at this;cases this;rfl
     let hTx:T≠x:=λz=>by rw[z,hx']at hT;cases hT
     let hTp:T≠pd:=λz=>by rw[z,hpd']at hT;cases hT
     show⟨T,_,rfl,.inl (.inl cy),rfl,_,_,rfl,_,_,rfl,rfl,?_⟩;let⟨y0,yr,k,rfl,hk0,hpl⟩:=a8u hpl;cases di.e with
     |@tup cp _ _ sqc dcs=>
     cases dcs.e with
     |@cons u0 ur _ _ du _=>
      let ek:u0=kV k:=by cases du.e<;>first|(cases hk0;rfl)|show nn hk0
      let hk2:∀b o,b≠x->H b=aa o->upd H' T (.tup [.int (i:ai),.ref cp]) b=aa o:=λb o hb e=>by erw[a9 (λz=>by rw[z]at e;let:=hk _ _ hTx e;rw[hT]at this;show nn this),hk b o hb e]
      let sqc':AS K (upd H' T (.tup [.int (i:ai),.ref cp])) cp (u0::ur):=AS.same (same hk2) sqc;let hxT:upd H' T (.tup [.int (i:ai),.ref cp]) x=aa (.ins (cls "Table") dx [("name",vn),("columns",.ref ca),("rows",vr),("places",.ref pd)]):=by erw[a9 hTx.symm,hx']
      let hpT:upd H' T (.tup [.int (i:ai),.ref cp]) pd=aa (.dK kvs):=by erw[a9 hTp.symm,hpd']
      show⟨.int (i:ai),by simp[sl],.ref x,by simp[s0],x,cls "Table",dx,_,.ref pd,rfl,hxT,cP.1,cP.2,rfl,⟨.ref cp,by simp[sl],cp,_,0,u0,rfl,rfl,sqc',(by simp[BQ,DU]),pd,_,rfl,by erw[ek,KN.k hpT (by rw[JP];lia)],⟨rfl,hlt,by simp[s0],by simp[sl],_,_,λb o hb e=>?_,by erw[a9 hne,hxT],cy,λH2=>ape (.int _) kvs ds' (dv H2),by erw[apd,hpl],?_⟩⟩⟩;.erw[a9 (λz=>by rw[z,hpd0]at e;show nn e),hk2 b o hb e]
      .delta putK;split;.rw[bt];lia
       .rw[e9,qr];lia
   .let e:i=cs.length:=yL;subst e;show .inl ⟨(ap xs sq' xl),?_⟩;rw[ZU]at hpl;cases hpl;show q H' hk (.obj (dx:=dx) (fs:=[("name",vn),("columns",.ref ca),("rows",vr),("places",.ref pd)]) ?_ rfl ?_);.delta rs;erw[ao (by change¬(O x&&!(x==x))=ae;erw[gp,ajq,kr,gy]),hx']
    .let sm:AH (rs O H) (rs (λb=>O b&&!(b==x)) H'):=λb o e=>by
      let e2:=same hk b o e;delta rs at e⊢;k_lt e;.show nn e
      .ext hob;erw[ao (λz=>hob (by rw[cg]at z;show z.1)),e2]
     show .cons (d1.up sm) (.cons ((Dr.tup sq dxs).up sm) (.cons (d3.up sm) (.cons (.d8 (kvs:=kvs) ?_ rfl (dv _)) .nil)));delta rs;erw[ao (λz=>by rw[cg]at z;show hO pd z.1 hpd0),hpd']
end
end CK
namespace L2
open PySem PySem.Spec PyProof.Rows
def PSt(X:Cx)(st:Stmt)(t:TS):Prop:=
 ∀pins s j H D,Inv X pins j H s->1<=s.toks->t D j H->ax (az X.prog X.w) X.A (exec st X.env) (SP X pins D) X.xe s
def PIt(X:Cx)(tg iter:Expr)(q:TI):Prop:=
 ∀pins s j H R,Inv X pins j H s->1<=s.toks->q j H R->
  ax (az X.prog X.w) X.A (eval iter X.env) (λv W=>ax (az X.prog X.w) X.A (yc v) (zj X pins j tg R) X.xe W) X.xe s
section
variable{X:Cx}{tg:Expr}
def a8w(hp:MK (az X.prog X.w) X.A X.env X.xe)(hc:X.calm=ae)(hi:PIt X tg iter j)(hg:PG X tg g)(q:B9 X body tb)
 (W:∀x,foldedSetIterable iter X.env x=pure x:=by intro _;rfl):PSt X (.For tg iter body [] pos) (RG j g tb):=
 λpins s σ H D I ht h=>ak1 hp hc hg q W (hi pins s σ H _ I ht h)
end
def L7(X:Cx)(e:Expr)(t:TE):Prop:=
 ∀pins s j H Q,Inv X pins j H s->1<=s.toks->t j H Q->ax (az X.prog X.w) X.A (eval e X.env) (λu s'=>1<=s'.toks/\EP X pins j Q u s') X.xe s
def xf{Q}(q:1<=s.toks)(h:ax M A t Q E s):ax M A t (λa s'=>1<=s'.toks/\Q a s') E s:=
 mm (wpAny_toks_of q h) (λj j x=>x) λj j x=>x.2
section
variable{X:Cx}{o e:Expr}{t N:TE}{y z:Str}{G L:ai}{J p2 C B:Pos}
def PE.tk(h:PE X e t):L7 X e t:=λpins s j H Q I W q=>xf W (h pins s j H Q I q)
def aq0(ho:L7 X o N)(W:(y==z)=ag)(j:attributeBase o "replace" X.env (eval o X.env)=eval o X.env:=by rfl)(q:(C.endLine==B.line)=true:=by rfl):
 L7 X (.Call (.Attribute o "replace" C) [.Constant (.str y) G J,.Constant (.str z) L p2] [] B) (λσ H Q=>N σ H λx H1=>∃a,x=.str a/\a.length+(a.length+1)*z.length<=16777216/\Q (.str (su a y z)) H1):=by show λpins s σ H Q I ht h=>xf ht (avp j rfl q rfl (bg (ho pins s σ H _ I ht h) λv s1 zz=>QY λw=>?_));let⟨ht1,x,H1,I1,r1,a,ex,hz,q1⟩:=zz;subst ex;let⟨t,rfl⟩:=r1;apply w.f;show aas _ _ ajn F.slot_str_replace F.type_str_replace (UX _ _ _) (λζ e=>nomatch e) (MY rfl (ZI (JR (Y3 (k:=G) (pos:=J) (JR (Y3 (k:=L) (pos:=p2) (QJ (SC.replace yL yL yL W hz λt' k=>⟨.str _,H1,I1.tok _,⟨_,rfl⟩,q1⟩))))))))
end
def PEm(X:Cx)(e:Expr)(t:TE):Prop:=
 ∀pins s j H Q,Inv X pins j H s->t j H Q->ax (az X.prog X.w) X.A (eval e X.env) (λu s'=>1<=s'.toks/\EP X pins j Q u s') X.xe s
def PTm(X:Cx)(e:Expr)(t:TT):Prop:=
 ∀pins s j H Q,Inv X pins j H s->t j H Q->ax (az X.prog X.w) X.A (uk e X.env (eval e X.env)) (λb s'=>1<=s'.toks/\TP X pins j Q b s') X.xe s
def PSm(X:Cx)(st:Stmt)(t:TS):Prop:=
 ∀pins s j H D,Inv X pins j H s->t D j H->ax (az X.prog X.w) X.A (exec st X.env) (λf s'=>1<=s'.toks/\SP X pins D f s') X.xe s
def TY(X:Cx)(q:ab Stmt)(t:TS):Prop:=
 ∀pins s j H D,Inv X pins j H s->1<=s.toks->t D j H->ax (az X.prog X.w) X.A (execs q X.env) (SP X pins D) X.xe s
section
variable{X:Cx}{tg o e a b:Expr}{t u:TS}{B E G C:TE}{p pos A:Pos}
def a8x(ha:PE X e B)(g1:Gl X "len")(m1:X.mg "len"=af)(hs:ed [e] X.env=[(ag,eval e X.env)]:=by rfl):
 PEm X (.Call (.Name "len" p) [e] [] pos) (λj H Q=>B j H λv W=>∃y,v=.str y/\y.length<=aw/\Q (.int y.length) W):=by show λpins s j H Q I h=>JS (o9 I g1 m1 (u:=.builtin "len") (by decide+kernel) (avd ?_ hs rfl));erw[hs,JR (bg (ha pins s j H _ I h) λv s1 z=>QY λw=>?_)];let⟨x,W,I1,r1,y,ex,hz,q⟩:=z;apply w.f;show QJ ?_;clear w;subst ex;let⟨t,rfl⟩:=r1;let hl:=wx;show len_str yL ⟨?_,.int _,W,I1.tok _,⟨_,rfl⟩,q⟩;lia
def a8y(ho:BS X (ia op) r)(ha:PEm X a G)(W:PE X b C)(hm:behindInMarks op b=ag):PTm X (.Compare a [op] [b] pos) (WE (KH r G C)):=by show λpins s j H Q I h=>bgj (bg (ha pins s j H _ I h) λv s1 zz=>QY λz3=>?_) hm;let⟨k1,x,H1,I1,r1,q1⟩:=zz;apply z3.f;show bg (xf k1 (W pins s1 j H1 _ I1 q1)) λu s2 z1=>QY λz0=>?_;let⟨k2,y,H2,I2,r2,q2⟩:=z1;apply z0.f;show bg (xf k2 (ho pins s2 j H2 x y v u _ I2 r1 r2 q2)) λc s3 z2=>QY λw=>?_;let⟨k3,z,H3,I3,r3,q3⟩:=z2;let⟨d,rfl,q⟩:=q3;cases r3;apply w.f;show ul ⟨k3,H3,I3,q⟩
def a8z(hc:PTm X c tc)(ha:B9 X j t)(hb:B9 X s2 u):PSm X (.If c j s2 pos) (AAA tc t u):=by
 show λpins s q H D I h=>wpAny_If (bg (hc pins s q H _ I h) λd j z=>?_);let⟨k,W,I1,q1⟩:=z;cases d with
 |true=>show xf k (ha pins j q W D I1 q1)
 |false=>show xf k (hb pins j q W D I1 q1)
def a80{st}(h1:PSm X st t)(h2:TY X rest u):B9 X (st::rest) (RD t u):=by
 show λpins s W H D I h=>UL (bg (h1 pins s W H {D with nx:=u D} I h) λf s1 z=>?_);let⟨k,q⟩:=z;match f,q with
 |.next,⟨j,H',I',q⟩=>show h2 pins s1 j H' D I' k q
 |.ret v,q=>show q
 |.brk,q=>show q
 |.cont,q=>show q
def a81{st}(h1:PS X st t)(h2:TY X rest u):TY X (st::rest) (RD t u):=by
 show λpins s W H D I k h=>UL (bg (xf k (h1 pins s W H {D with nx:=u D} I h)) λf s1 z=>?_);let⟨k,q⟩:=z;match f,q with
 |.next,⟨j,H',I',q⟩=>show h2 pins s1 j H' D I' k q
 |.ret v,q=>show q
 |.brk,q=>show q
 |.cont,q=>show q
def a82{st}(h1:PSt X st t)(h2:B9 X rest u):TY X (st::rest) (RD t u):=by
 show λpins s W H D I k h=>UL (bg (h1 pins s W H {D with nx:=u D} I k h) λf s1 q=>?_);match f,q with
 |.next,⟨j,H',I',q⟩=>show h2 pins s1 j H' D I' q
 |.ret v,q=>show q
 |.brk,q=>show q
 |.cont,q=>show q
def a83(ho:L7 X o E)(j:attributeBase o "split" X.env (eval o X.env)=eval o X.env:=by rfl)(W:(A.endLine==pos.line)=true:=by rfl):
 L7 X (.Call (.Attribute o "split" A) [] [] pos) (λσ H Q=>E σ H λx H1=>∃y,x=.str y/\y.length+2<=aw/\RM (JZ y) H1 Q):=by show λpins s σ H Q I k h=>xf k (PySem.Call_method0 j W (bg (ho pins s σ H _ I k h) λv s1 z=>QY λw=>?_));let⟨_,x,H1,I1,r1,y,ex,hz,q⟩:=z;subst ex;let r1':=r1;let⟨t,rfl⟩:=r1';apply w.f;show aas _ _ ajn av2 biz (UX _ _ _) (λζ e=>nomatch e) (MY rfl (avo (anj pins s1 σ H1 _ [] _ [] Q I1 r1 .nil (wq y rfl rfl hz q))))
def a84(hl:L7 X e B):PIt X tg e (WC X.K B):=by
 show λpins s σ H R I k h=>bg (hl pins s σ H _ I k h) λv W zz=>QY λw=>?_;let⟨_,x,H1,j,r1,a,ex,sq,q⟩:=zz;subst ex;cases r1;let⟨xs,sq⟩:=sq;show bz (j.list sq) λits rv pl hz=>?_;apply w.f;show Y6 pl.isList ⟨W.heap.objs.size,[W.heap.objs.size],_,_,H1,rfl,j.kept (λb o z=>dg _ z),akz a _,(et _ (f7 _ rfl) rfl rfl),λb hb=>?_,q⟩;obtain rfl:b=W.heap.objs.size:=by simpa using hb
 show j.t7 (b8 _) (j.bu.fresh (b8 _))
end
end L2
namespace CK
open PySem PySem.Spec PyProof.Rows L2 DL
def aq1(x y z):(su x y z).length<=x.length+(x.length+1)*z.length:=by
 delta su;split;.simp
 .let j:(bni y (bnj x (aww x y 0 x.length (x.length+1)) y.length)).length=x.length:=by rw[StrLaws.glued_between_self]
  rw[size_glued]at j;rw[size_glued,length_partsBetween];let q:(aww x y 0 x.length (x.length+1)).length*z.length<=_*z.length:=awx _ (StrLaws.occ_length_le x y 0 x.length _);lia
def aa6:iz ["text","unclosed","piece","closed","leaf"] ["text"] (AO D2):=(by decide+kernel)
def ACB:Expr:=match(BC D2).getD 2 (.Pass ⟨0,0,0,0⟩)with
 |.For tg _ _ _ _=>tg
 |_=>.Name "" ⟨0,0,0,0⟩
def AFN(K:ba):TI:=WC K λj H Q=>NW 0 j H λx q=>∃a,x=.str a/\a.length+(a.length+1)*(" ( ":Str).length<=16777216/\∃b,V.str (su a "(" " ( ")=.str b/\b.length+(b.length+1)*(" ) ":Str).length<=16777216/\
 ∃y,V.str (su b ")" " ) ")=.str y/\y.length+2<=aw/\RM (JZ y) q Q
def L8(i:ai):Stmt:=(BC D2).getD i (.Pass ⟨0,0,0,0⟩)
def a85{K}(q:Γ.fi=[])(hO:BU O H)(hd:AJ K Γ.cls (rs O H) vs ds):ER Γ K O H O H (L2.start N vs) (G8 N ds):=by
 show⟨hO,λW h=>h,λW h=>.inl h,AH.refl H,λi d' hi=>?_,⟨λW W=>ag,λi s hi hs=>?_,λi b hb=>NE hb,λi j b hb=>NE hb⟩,(λm hm=>by rw[q]at hm;show nomatch hm),(λm hm=>by rw[q]at hm;show nomatch hm),(λm hm=>by rw[q]at hm;show nomatch hm)⟩
 .delta G8 at hi;rw[QV]at hi;k_lt hi;.ext hlt;rw[i9]at hi;let⟨d2,h2,e2⟩:=bo hi;cases e2;show au (hd.get h2) λv hv rv=>ap v ?_ rv;delta L2.start;rw[UW (by grind),i9,hv];rfl
  simp_all[MT]
 .delta G8 at hi;rw[QV]at hi;k_lt hi;.rw[i9]at hi;let⟨d2,h2,e2⟩:=bo hi;subst e2;trivial
  .rw[MT]at hi;k_lt hi;.injection hi with hi;subst hi;trivial
   .trivial
def TZ(x:Str)(ξ:ab Sl):ah Out:=match(ξ[0]?:ah Sl)with
 |some (Sl.val (D.str y))=>if y=x then BO (AU GP ((HE x).map D.str) ξ) IG else af
 |_=>af
set_option tactic.hygienic true in
def a86(h:TZ x ξ=aa o):ξ[0]?=aa (.val (.str x))/\BO (AU GP ((HE x).map D.str) ξ) IG=aa o:=by
 delta TZ at h;k_lt h
 .ext y hy;k_lt h;.ext e;subst e;show⟨hy,h⟩
  .trivial
 .trivial
section
variable{P:de}{w:c9}{K:ba}{C:Str->ah a6}{B:Heap}{cls:Str->Addr}
def YH(P:de)(w:c9)(cls:Str->Addr):DL.Ctx:={N:=["text","unclosed","piece","closed","leaf"],cls:=cls,k:=2,fields:=FL,eg:=DI [("read_leaf",LO)],gq:=DJ [("MOST_BYTES",.int 4000),("MOST_DEEP",.int 40)],pw:=aa (P,w)}
def a87(L:Lk P w K C B cls):TX (YH P w cls) P w K C B:=
 ⟨L.fl,λy g h=>EU.get (fs:=[("read_leaf",LO)]) ⟨a7g L,trivial⟩ h,λy d h=>EV.get (cs:=[("MOST_BYTES",.int 4000),("MOST_DEEP",.int 40)]) ⟨L.aql,L.a6e,trivial⟩ h,L.bl,rfl⟩
set_option tactic.hygienic true in
def a88(L:Lk P w K C B cls):AW P w K C B cls "read_trees" 3 O6:=by
 show fg (show G9 K C "read_trees" (top 64) ["text"]from L.g 55) λf fd F h1 h2 h3=>?_;let T:=a87 (P:=P) (w:=w) L;show .inl (o7 f fd ["text"] h1 h2 h3 (F.ok aa6 (λvs H Q E hs=>?_) (λcdv A outer s H vs Q E hr hs=>?_)))
 .let⟨O,ds,d,hO,hd,hg,a⟩:=hs;obtain _|⟨d,l⟩:=ds<;>w_top hg
  cases d<;>w_top hg
  cases l<;>w_top hg
  show hd.length
 .let⟨O,ds,d,hO,hd,hg,a⟩:=hs;obtain _|⟨d,l⟩:=ds<;>w_top hg
  cases d<;>w_top hg
  cases l<;>w_top hg
  ext x;let⟨_,_,rfl,e3,e2⟩:=hd;cases e3;cases e2;let G:GX (YH P w cls) (EM ig P w K C B ["text","unclosed","piece","closed","leaf"] "read_trees" (AO D2) f cdv A outer s H E).nj ae (AO D2):=by show⟨rfl,aa6.nd,rfl,hr,?_,λx hx=>zx hx,λx hx=>vo hx,λζ=>rfl,T.DZ,T.eg,T.gq,T.gu,T.pw⟩;let:=hr.un;change(A.deeper (v9 "read_trees" (AO (top 64)) s.heap.objs.size f cdv)).units+1+64<jj;lia
  let v0:KG (AO D2) "text":=zx (by decide+kernel);let g1:(AO D2).names.lookup ("len":Str)=aa .globalImplicit:=vo (by decide+kernel);let g2:(AO D2).names.lookup ("MOST_BYTES":Str)=aa .globalImplicit:=vo (by decide+kernel);show b7 L.aql λmv mu m1 m2 m3=>?_;obtain rfl:mv=.int 4000:=by let:=m3 H;cases this;rfl
  show ap _ (a80 (a8z (a8y ak5 (a8x (js (i:=0) rfl v0) g1 (L.bl _ yD)) (akq g2 m1 m2) rfl) (zg (abo akp)) afi) (a81 (agu _ (L8 1)) (a82 (a8w yk rfl (a84 (a83 (aq0 (aq0 (PE.tk (js (i:=0) rfl v0)) (by decide+kernel)) (by decide+kernel)))) (agv _ _) (ma _ O1)) (ma _ [L8 3])))) ?_;replace hg:(if 4000<x.length then(if x.length<=aw then aa D.bj else af)else AK (BO (AU GP ((HE x).map D.str) [.val (.str x),.gg [[]],.no,.no,.no]) IG))=aa d:=hg;by_cases hlong:4000<x.length
  .rw[aj hlong]at hg;k_lt hg;case isFalse=>show nn hg
   case isTrue hz=>cases hg;show⟨.str x,rfl,x,rfl,hz,_,_,rfl,rfl,_,rfl,?_⟩;erw[gm yL,a _ _ (AH.refl H) .bj]
  .rw[ao hlong]at hg;show⟨.str x,rfl,x,rfl,by rw[JP];lia,_,_,rfl,rfl,_,rfl,?_⟩;rw[gi yL];let ho:=aa4 hg;let hk:TZ x [.val (.str x),.gg [[]],.no,.no,.no]=aa (.ret d):=by change(if x=x then _ else af)=_;erw[aj rfl,ho]
   show ag5 G aa6.kind (λζ=>rfl) yk 20 (ab9 G aa6.kind (λζ=>rfl) yk 20) (G8 ["text","unclosed","piece","closed","leaf"] [.str x]) (L8 1) (TZ x) (.ret d) hk O H O _ H _ (a85 rfl hO (.cons (.str x) .nil)) rfl (λξ' O' σ' H' hK e' hl'=>QY λz0=>?_) (λd' e v H' s' dv=>by cases e;show a v H' s' dv);let⟨h0,hK⟩:=a86 hK;show au (e'.val 0 _ h0) λv0' hv0 dv0=>?_;cases dv0;let cases':(∃ξ2,AU GP ((HE x).map D.str) ξ'=aa (.next ξ2)/\IG ξ2=aa (.ret d))\/AU GP ((HE x).map D.str) ξ'=aa (.ret d):=by
    delta BO at hK;k_lt hK;.ext ξ2 hf;show .inl (ap ξ2 hf hK)
    .ext d2 hf;cases hK;show .inr hf
    .show nn hK
   obtain⟨o1,ho1,hw1⟩:∃o1,AU GP ((HE x).map D.str) ξ'=aa o1/\SH (YH P w cls) (EM ig P w K C B ["text","unclosed","piece","closed","leaf"] "read_trees" (AO D2) f cdv A outer s H E).nj O H {nx:=wS (EM ig P w K C B ["text","unclosed","piece","closed","leaf"] "read_trees" (AO D2) f cdv A outer s H E).nj [L8 3] {nx:=λζ H'=>Q .bj H',rt:=Q},rt:=Q} o1:=by
    obtain⟨ξ2,hf,hr2⟩|hf:=cases';.show ap _ hf λO2 σ2 H2 e2 hl2=>ab9 G aa6.kind (λζ=>rfl) yk 20 ξ2 [L8 3] (λζ=>af) (.ret d) (by erw[aca,hr2]) O H O2 σ2 H2 _ e2 hl2 (λζ ζ ζ ζ z=>by show nn z) (λd' e v H' s' dv=>by cases e;show a v H' s' dv)
    .show ap _ hf λv H2 s2 dv=>a v H2 s2 dv
   apply z0.f;change RG (AFN K) (XR (EM ig P w K C B ["text","unclosed","piece","closed","leaf"] "read_trees" (AO D2) f cdv A outer s H E).nj ACB) (wS (EM ig P w K C B ["text","unclosed","piece","closed","leaf"] "read_trees" (AO D2) f cdv A outer s H E).nj O1) {nx:=wS (EM ig P w K C B ["text","unclosed","piece","closed","leaf"] "read_trees" (AO D2) f cdv A outer s H E).nj [L8 3] {nx:=λζ H'=>Q .bj H',rt:=Q},rt:=Q} σ' H';show agx (tg:=ACB) (body:=O1) (f:=GP) G (λζ=>rfl) rfl (λd2 ξ1 o hlo=>⟨ξ1.set 2 (.val d2),rfl,_,hlo,?_⟩) ho1 e' hl' hw1 (λR hR=>?_);.let:=(ab9 G aa6.kind (λζ=>rfl) yk 20 (ξ1.set 2 (.val d2)) O1).s;rw[aca]at this;show this
   .let l1:=aq1 x "(" " ( ";let l2:=aq1 (su x "(" " ( ") ")" " ) ";let e3:(" ( ":Str).length=3:=by decide+kernel
    let e4:(" ) ":Str).length=3:=by decide+kernel
    rw[e3]at l1;rw[e4]at l2;show⟨.str x,hv0,x,rfl,by rw[e3];lia,_,rfl,by rw[e4];lia,_,rfl,by rw[JP];lia,λq hq=>et q rfl ⟨_,.inl (.inl cy)⟩ (hR _ _ (λb o z=>by erw[a9 (λk=>by rw[k,hq]at z;show nn z),z]) ?_)⟩;let hOq:O' q=false:=by
     cases z:O' q with
     |false=>rfl
     |true=>show cj hq (e'.has q z)
    let hdr:∀(l:ab Str)(H2:Hp),AJ K cls H2 (l.map V.str) (l.map D.str):=λl H2=>by
     induction l with
     |nil=>show .nil
     |cons y r ih=>show .cons (.str y) ih
    show aoi (by delta rs;erw[ao (by erw[hOq,gy]),cy]) (hdr _ _)
end
section
variable{P:de}{w:c9}{K:ba}{B:Str->ah a6}{A:Heap}{cls:Str->Addr}
structure Lt(P w K B A cls):Prop extends Lq P w K B A cls where
 iT:FN K B (cls "Table") "Table" HJ ["self","name","columns","rows"]
def a89(Z:Lt P w K B A cls):Lh P w K B A cls:=⟨Z.toLq,a8v Z.iT Z.L,a8s Z.L,a88 Z.L⟩
end
section
variable{K:ba}{A:Str->ah a6}{h:Heap}{cls:Str->Addr}
def ACC{j}:ai->(ab j->Prop)->Prop
 |0,P=>P []
 |n+1,P=>∀a,ACC n λl=>P (a::l)
@[elab_as_elim]theorem T3{α}{P}{n}(l:ab α)(h:l.length=n)(f:ACC n P):P l:=by
 induction n generalizing l P with
 |zero=>
  cases l;.show f
  .trivial
 |succ n i=>
  cases l with
  |nil=>trivial
  |cons a l=>show i l (Nat.succ.inj h) (f a)
def a9a{st}{kV q W j ct}(X:K.In h)(G:h.Ns kq A)(a:NF K kq x=aa (aa (.ref f)))
 (l:K.lookup f=aa ⟨oc,od,.func (qi x x (F0 st) (BC st) (AO st) .none kV q W an j ct),osl⟩)(c:MU K j x=ae)(k:og K (.ref f)=ae)
 (hb:∀(kV q W)(an)(j ct)(us),us.length=ps.length->UQ (qi x x (F0 st) (BC st) (AO st) .none kV q W an j ct) ⟨us,[]⟩=pure (ps.zip us)):G9 K A x st ps:=
 (ic f _ (zr l c k) (QW X G a) k ((zr l c k).binds hb))
def a9b{st}{kV q W j ct}(hC:fy K C)(a:uv K (.ref C) m=aa (aa (.ref f)))(i:UO K (.ref f)=ae)
 (l:K.lookup f=aa ⟨oc,od,.func (qi m (c++"."++m) (F0 st) (BC st) (AO st) .none kV q W an j ct),osl⟩)(cd:MU K j (c++"."++m)=ae)(k:og K (.ref f)=ae)
 (hb:∀(kV q W)(an)(j ct)(us),us.length=ps.length->UQ (qi m (c++"."++m) (F0 st) (BC st) (AO st) .none kV q W an j ct) ⟨us,[]⟩=pure (ps.zip us)):ID K C c m st ps:=
 ⟨hC,f,_,zr l cd k,⟨a,i,k⟩,(zr l cd k).binds hb⟩
def a9c{st}{kV q W j ct}(X:K.In h)(G:h.Ns kq A)(g:NF K kq c=aa (aa (.ref C)))(mk:ZA K C=ae)
 (a:uv K (.ref C) "__init__"=aa (aa (.ref f)))(i:UO K (.ref f)=ae)(kc:og K (.ref C)=ae)
 (l:K.lookup f=aa ⟨oc,od,.func (qi "__init__" (c++".__init__") (F0 st) (BC st) (AO st) .none kV q W an j ct),osl⟩)(cd:MU K j (c++".__init__")=ae)(k:og K (.ref f)=ae)
 (hb:∀(kV q W)(an)(j ct)(us),us.length=ps.length->UQ (qi "__init__" (c++".__init__") (F0 st) (BC st) (AO st) .none kV q W an j ct) ⟨us,[]⟩=pure (ps.zip us)):FN K A C c st ps:=
 ⟨QW X G g,f,_,zr l cd k,⟨mk,a,i,kc⟩,(zr l cd k).binds hb⟩
section
variable(X:K.In h)(G:h.Ns kq A)
include X G
def a9d(a:NF K kq x=aa (aa (.int i t))):BR K A cls x (.int i):=(dq (.int i) _ (QW X G a) ⟨t,rfl⟩ (λj=>.int i))
def a9e(a:NF K kq x=aa (aa (.str i t))):BR K A cls x (.str i):=(dq (.str i) _ (QW X G a) ⟨t,rfl⟩ (λj=>.str i))
def aef(a:NF K kq x=aa (aa (.ref p)))(l:K.lookup p=aa ⟨.type "tuple",q,.seq j n,W⟩)
 (z:j.size<=aw)(v:Vals xs j.toList)(d:∀H,AJ K cls H xs ds):BR K A cls x (.tup ds):=
 (dq (.ref p) _ (QW X G a) rfl (λH=>.tup (.inr (aau _ _ _ l rfl rfl z v)) (d H)))
def a9f(e:∀x∈GI,NF K kq x=aa af):∀x∈GI,A x=none:=λx j=>PySem.W.mg_none_of X G (e x j)
end
end
noncomputable def kn:ab Str:=["tables","claims","breakers","histories","turns","day","steps"]
noncomputable def cn:ab Str:=["calls","place"]
noncomputable def k0:ab D:=[.d8 [] [],.lst [],.lst [],.lst [],.lst [],.int 0,.lst []]
def T4:Stmt:=inClass (top 75) 0
def PF:Stmt:=inClass (top 116) 0
def PH:Stmt:=top 124
def ACD:eu:=GN {N:=["self","calls"],cls:=λj=>0,k:=0,fields:=FL,eg:=DI [],gq:=DJ []} ⟨FJ [],E6 []⟩ (AO PF) 24 ["self","calls"] (BC PF)
def a9g(d):ACD [.m "Cursor" [] [],.d d]=aa ([(cn,[d,.int 0])],.bj):=by rfl
def a9h(l)(p):ACA [.m "Cursor" cn [.fl l,.int p]]=aa ([(cn,[.fl l,.int p])],.bl (decide (l.length<=p))):=by rfl
def a9i:iz ["self"] ["self"] (AO T4):=(by decide+kernel)
def a9j:iz ["self","calls"] ["self","calls"] (AO PF):=(by decide+kernel)
def scS:iz ["calls","keeper","cursor","told","answer"] ["calls"] (AO PH):=(by decide+kernel)
structure aq2(ns out:ab ak)(R:ab D->ai->ab ak->Prop):Prop where
 start:R k0 0 []
 step:∀k p told,R k p told->p<ns.length->∃k' p' ans,PD [.m "Keeper" kn k,.m "Cursor" cn [.fl (ns.map D.int),.int (p:ai)]]=aa ([(kn,k'),(cn,[.fl (ns.map D.int),.int (p':ai)])],.lst (ans.map D.int))/\
  p<p'/\told.length+1+ans.length<=aw/\R k' p' (told++((ans.length:ai):ak)::ans)
 fin:∀k p told,R k p told->ns.length<=p->told=out
def YI(K:ba):Sp:=λvs H Q q=>∃a ns j R,vs=[.ref a]/\AR K H a (ns.map V.int)/\aq2 ns j R/\∀H' p,H' p=aa (.lst (j.map V.int))->Q (.ref p) H'
def a9k{K}(h:AR K H a xs)(j:∀b,O b=ae->H b=af)(s:AH H H'):AR K (rs O H') a xs:=by
 let k:∀o,H a=aa o->rs O H' a=aa o:=λo e=>by delta rs;erw[ao (λq=>yA),s _ _ e]
 obtain(h|⟨o,h⟩)|h:=h;.show .inl (.inl (k _ h))
 .show .inl (.inr ⟨o,k _ h⟩)
 .show .inr h
def ud(h:∀b o,O b=ag->H b=aa o->H' b=aa o):AH (rs O H) (rs O H'):=λb o e=>by grind[rs]
structure Lay(K:ba)(cls:Str->Addr)(H0:Hp)(H:Hp)(x c l:Addr)(ns:ab ak)(k:ab D)(p:ai)(told:ab ak):Prop where
 s:∀b o,H0 b=aa o->H b=aa o
 xc:x≠c
 xl:x≠l
 cl:c≠l
 k:∃dx fs,H x=aa (.ins (cls "Keeper") dx fs)/\fs.map (·.1)=kn/\AJ K cls (rs (λb=>b==x||b==c||b==l) H) (fs.map (·.2)) k
 c:∃dx fs,H c=aa (.ins (cls "Cursor") dx fs)/\fs.map (·.1)=cn/\AJ K cls (rs (λb=>b==x||b==c||b==l) H) (fs.map (·.2)) [.fl (ns.map D.int),.int (p:ai)]
 t:H l=aa (.lst (told.map V.int))
def a9l{fs:ab (Str×V)}(h:fs.map (·.1)=ns)(hm:m∉ns):fs.lookup m=none:=by grind
def a9m{K}{ns:ab ak}(h:Dr K cls H v (.lst (ns.map D.int))):∃q,v=.ref q/\H q=aa (.lst (ns.map V.int)):=by show b7 h λ_ _ j h1 h2=>?_;let e:=AJ.ints h2;walk
structure KI(K:ba)(cls:Str->Addr)(C p dx:Addr)(H0 H:Hp)(fs:ab (Str×V))(ks:ab D):Prop where
 same:∀b o,H0 b=aa o->b≠p->H b=aa o
 at_:H p=aa (.ins C dx fs)
 dr:AJ K cls (rs (λb=>b==p) H) (fs.map (·.2)) ks
def a9n:AH (rs (λb=>b==p) H) (rs (λb=>b==p) (upd H p o)):=λb u e=>by simp_all[rs,a9]
def KI.step{K}(h:KI K cls C p dx H0 H fs ks)(s:AH H q)(dv:Dr K cls (rs (λb=>b==p) q) v d)(hf:CJ f v fs=fs':=by rfl)(j:fs'=fs++[(f,v)]:=by rfl):
 KI K cls C p dx H0 (upd q p (.ins C dx (CJ f v fs))) fs' (ks++[d]):=by show⟨λb o e W=>by erw[a9 W,s _ _ (h.same b o e W)],by rw[cy,hf],?_⟩;erw[j,fe,((h.dr.up (AH.rs _ s)).append (.cons dv .nil)).up a9n]
def KI.new{K}(h:KI K cls C p dx H0 H fs ks)(hl:H l=af):AH H (upd H l o)/\rs (λb=>b==p) (upd H l o) l=aa o:=
 ⟨AH.new hl,adp (λb hb=>by rw[eq_of_beq hb,h.at_];simp) hl⟩
def AFO(K:ba)(cls:Str->Addr)(C:Addr):Sp:=λvs H Q j=>∃p dx,vs=[.ref p]/\H p=aa (.ins C dx [])/\∀H' fs,KI K cls C p dx H H' fs k0->fs.map (·.1)=kn->Q .bj H'
section
variable{P:de}{w:c9}{K:ba}{G:Str->ah a6}{B:Heap}{cls:Str->Addr}
def a9o(L:Lk P w K G B cls)(F:pj K "__init__" "Keeper.__init__" T4 f fd):g8 P w K G B ig 1 f fd ["self"] (AFO K cls (cls "Keeper")):=by
 let j:=λg h=>(L.fl "Keeper" g h).2;let cl:fy K (cls "Keeper"):=(L.fl "Keeper" "day" yD).1;show F.ok a9i (λvs H Q E h=>?_) (λcdv A outer s H vs Q E hr h=>?_);.show jd h λp dx q _=>?_;subst q;rfl
 .show b7 h λp dx W hp k=>?_;subst W;show ap _ (j9 (pb (pv 0) ams rfl) (j9 (pb (pv 0) (ph fx) rfl) (j9 (pb (pv 0) (ph fx) rfl) (j9 (pb (pv 0) (ph fx) rfl) (j9 (pb (pv 0) (ph fx) rfl) (j9 (pb (pv 0) abm rfl) (zg (pb (pv 0) (ph fx) rfl)))))))) ?_;let S0:KI K cls (cls "Keeper") p dx H H [] []:=⟨λb o e ζ=>e,hp,.nil⟩;intro d hd;let n1:=S0.new (o:=.dK []) hd;show⟨_,rfl,p,_,dx,_,rfl,n1.1 _ _ S0.at_,cl,j "tables" yD,(by change 0<1000;decide),?_⟩;let S1:=S0.step (f:="tables") n1.1 (.d8 (kvs:=[]) n1.2 rfl .nil);show⟨gv _,λl1 h1=>?_⟩;let n2:=S1.new (o:=.lst []) h1;show⟨_,rfl,p,_,dx,_,rfl,n2.1 _ _ S1.at_,cl,j "claims" yD,(by change 1<1000;decide),?_⟩;let S2:=S1.step (f:="claims") n2.1 (.lst n2.2 .nil);show⟨gv _,λl2 h2=>?_⟩;let n3:=S2.new (o:=.lst []) h2;show⟨_,rfl,p,_,dx,_,rfl,n3.1 _ _ S2.at_,cl,j "breakers" yD,(by change 2<1000;decide),?_⟩;let S3:=S2.step (f:="breakers") n3.1 (.lst n3.2 .nil);show⟨gv _,λl3 h3=>?_⟩;let n4:=S3.new (o:=.lst []) h3;show⟨_,rfl,p,_,dx,_,rfl,n4.1 _ _ S3.at_,cl,j "histories" yD,(by change 3<1000;decide),?_⟩;let S4:=S3.step (f:="histories") n4.1 (.lst n4.2 .nil);show⟨gv _,λl4 h4=>?_⟩;let n5:=S4.new (o:=.lst []) h4;show⟨_,rfl,p,_,dx,_,rfl,n5.1 _ _ S4.at_,cl,j "turns" yD,(by change 4<1000;decide),?_⟩;let S5:=S4.step (f:="turns") n5.1 (.lst n5.2 .nil);show⟨_,rfl,p,_,dx,_,rfl,S5.at_,cl,j "day" yD,(by change 5<1000;decide),?_⟩;let S6:=S5.step (f:="day") (AH.refl _) (.int 0);show⟨gv _,λl7 h7=>?_⟩;let n7:=S6.new (o:=.lst []) h7;show⟨_,rfl,p,_,dx,_,rfl,n7.1 _ _ S6.at_,cl,j "steps" yD,(by change 6<1000;decide),?_⟩;let S7:=S6.step (f:="steps") n7.1 (.lst n7.2 .nil);show k _ _ S7 rfl
def a9p(Z:Lt P w K G B cls)(iK:FN K G (cls "Keeper") "Keeper" T4 ["self"])(iR:FN K G (cls "Cursor") "Cursor" PF ["self","calls"])(F:pj K "answers" "answers" PH f fd):g8 P w K G B ig 104 f fd ["calls"] (YI K):=by
 let Z':=a89 Z;show j6 iK λgK fK fdK FK mK bK=>j6 iR λgR fR fdR FR mR bR=>?_;let GK:=a9o Z.L FK;let GR:g8 P w K G B ig 1 fR fdR ["self","calls"] (LC K cls ACD):=aec (Γ:={N:=["self","calls"],cls:=cls,k:=0,fields:=FL,eg:=DI [],gq:=DJ [],pw:=aa (P,w)}) (C:=⟨FJ [],E6 []⟩) FR a9j ⟨Z.L.fl,(λy g' h'=>nomatch h'),(λy d h'=>nomatch h'),Z.L.bl,rfl⟩ ⟨(λy g' h'=>nomatch h'),(λc m g' h'=>nomatch h')⟩ rfl 24;show xA (a8b Z') λclR zq29_1=>kj zq29_1 λfE fdE psE mE bE GE=>fh ((a8o Z').mono (k:=103) yD) λfA fdA psA mgA kpA bA GA=>?_;let hlen:G "len"=none:=Z.L.bl "len" yD;show F.ok scS (λvs H Q E h=>?_) (λcdv A outer s H vs Q E hr h=>?_);.let⟨a,ns,out,R,rfl,_⟩:=h;rfl
 .show rl h λa ns out R zq26_1 hS M k=>?_;clear h;subst zq26_1;let hr1:ie 1 _:=hr.mono yD;let hr2:ie 2 _:=hr.mono yD;show ap _ (j9 (nk (i:=1) scS.nd rfl (ajv rfl) (aze mK GK hr2 rfl gK bK .nil wz) rfl (.inl rfl))
   (j9 (nk (i:=2) scS.nd rfl (ajv rfl) (alh mR GR hr2 rfl gR bR .nil wz (gc (pv 0) fx)) rfl (.inl rfl))
   (j9 (nk (i:=3) scS.nd rfl (ajv rfl) (ph fx) rfl (.inl rfl))
   (j9 (ayh yk (aku (akr (alf (pv 2) clR mE GE hr1 bE .nil wz) λζ=>rfl))
     (j9 (nk (i:=4) scS.nd rfl (ajv rfl) (afu GA hr rfl mgA kpA bA .nil wz (gc (pv 1) (gc (pv 2) fx))) rfl (.inl rfl))
     (j9 (vg (vh yj QN VB abt (pv 3) (gc (t9 abr (by rfl) hlen bik (gc (pv 4) fx)) fx)))
     (zg (vg (vh yj U0 awq al9 (pv 3) (gc (pv 4) fx)))))))
   (zg (abo (pv 3))))))) (λx dx nx ndx nex=>dq x dx rfl cy λH1 fs1 ki1 kfn=>⟨rfl,?_⟩);let s1:AH H H1:=AH.made nx ndx ki1.same;show⟨_,rfl,?_⟩;intro c dc nc ndc nec;let hcx:c≠x:=λe=>by rw[e,ki1.at_]at nc;cases nc
  generalize hHc:upd (upd H1 dc (.own c)) c (.ins (cls "Cursor") dc [])=Hc;let s2:∀b o,H1 b=aa o->Hc b=aa o:=λb o e=>by erw[<-hHc,a9 (fw e nc),a9 (fw e ndc),e]
  let hOn:∀b,(b==x||b==c)=ae->H b=none:=λb hb=>by
   rw[jb]at hb;obtain hb|hb:=hb;.erw[eq_of_beq hb,nx]
   .erw[eq_of_beq hb,s1.free nc]
  let hcc:Hc c=aa (.ins (cls "Cursor") dc []):=by erw[<-hHc,cy]
  let sHc:AH H Hc:=λb o e=>s2 b o (s1 b o e);show⟨λb=>b==x||b==c,[.m "Cursor" [] [],.d (.fl (ns.map D.int))],_,λb hb=>?_,.cons (.m yS hcc rfl .nil) (.cons (.d (.fl (a9k hS hOn sHc) (anu ns))) .nil),?_,a9g _,λv H2 fr fin dv=>?_⟩
  .rw[jb]at hb;obtain hb|hb:=hb;.rw[eq_of_beq hb,s2 _ _ ki1.at_];simp
   .rw[eq_of_beq hb,hcc];simp
  .show gd.mpr ⟨qo,ol⟩
  let s3:∀b o,b≠c->Hc b=aa o->H2 b=aa o:=λb o hb e=>fr b o (λz=>hb (fq.mp z)) e;let s13:∀b o,H1 b=aa o->H2 b=aa o:=λb o e=>s3 b o (fw e nc) (s2 b o e);show QQ λz=>?_;cases dv;cases fin with
  |cons fin _=>
  show b7 fin λdc2 fsc c1 c2 c3=>z.f ⟨rfl,⟨gv _,λl hl=>?_⟩⟩;let hlx:l≠x:=λe=>by rw[e,s13 _ _ ki1.at_]at hl;cases hl
  let hlc:l≠c:=λe=>by rw[e]at hl;rw[show H2 c=aa (.ins (cls "Cursor") dc2 fsc)from c1]at hl;cases hl
  generalize hHl:upd H2 l (.lst [])=Hl;let s4:∀b o,H2 b=aa o->Hl b=aa o:=λb o e=>by erw[<-hHl,a9 (fw e hl),e]
  let hll:Hl l=aa (.lst []):=by erw[<-hHl,cy]
  let L0:Lay K cls H Hl x c l ns k0 0 []:=by
   show⟨λb o e=>s4 b o (s13 b o (s1 b o e)),λe=>hcx e.symm,λe=>hlx e.symm,λe=>hlc e.symm,(dq dx fs1 (s4 _ _ (s13 _ _ ki1.at_)) kfn (ki1.dr.up λb o e=>?_)),(dq dc2 fsc (s4 _ _ c1) c2 (c3.up λb o e=>?_)),hll⟩
   .delta rs at e⊢;by_cases q:(b==x)=ae;.rw[aj q]at e;show nn e
    .rw[ao q]at e;let e2:=s13 b o e;erw[ao (by change¬(b==x||b==c||b==l)=ae;rw[show(b==x)=ag by simpa using q,show(b==c)=ag from i8.mpr (fw e nc),show(b==l)=ag from i8.mpr (fw e2 hl)];decide),s4 _ _ e2]
   .delta rs at e⊢;by_cases q:(b==x||b==c)=ae;.rw[aj q]at e;cases e
    .rw[ao q]at e;erw[ao (by change¬(b==x||b==c||b==l)=ae;rw[show(b==x||b==c)=ag by simpa using q,show(b==l)=ag from i8.mpr (fw e hl)];decide),s4 _ _ e]
  show ap (λm σ' H'=>∃v4 kd p told,σ'=[aa (.ref a),aa (.ref x),aa (.ref c),aa (.ref l),v4]/\Lay K cls H H' x c l ns kd p told/\R kd p told/\m=ns.length-p) ⟨_,af,k0,0,[],rfl,L0,M.start,rfl⟩ ?_;intro m σ' H' z0;show QQ λz=>rl z0 λv4 kd p told zq19_1 Ly hR zq19_2=>?_;clear z0;subst zq19_1;subst zq19_2;show b7 Ly.k λdk fk q1 q2 q3=>b7 Ly.c λdcu fc r1 r2 r3=>z.f ?_;let hOh:BU (λb=>b==x||b==c||b==l) H':=λb hb=>by
   rw[jb,jb]at hb;obtain(hb|hb)|hb:=hb;.rw[eq_of_beq hb,q1];simp
   .rw[eq_of_beq hb,r1];simp
   .rw[eq_of_beq hb,Ly.t];simp
  let Oc:(λb:Addr=>b==x||b==c||b==l) c=true:=yS;let Ox:(λb:Addr=>b==x||b==c||b==l) x=true:=yS;let Ol:(λb:Addr=>b==x||b==c||b==l) l=true:=yS;show⟨_,rfl,c,dcu,fc,rfl,r1,a9l r2 yD,⟨λb=>b==x||b==c||b==l,[.m "Cursor" cn [.fl (ns.map D.int),.int (p:ai)]],_,hOh,.cons (.m Oc r1 r2 r3) .nil,gd.mpr ⟨qo,ol⟩,a9h _ _,λv H3 fr3 fin3 dv3=>?_⟩⟩;let u3:∀b o,b≠c->H' b=aa o->H3 b=aa o:=λb o hb e=>fr3 b o (λz=>hb (fq.mp z)) e;show QQ λz=>?_;cases fin3 with
  |cons fin3 _=>
  show b7 fin3 λdc3 fc3 t1 t2 t3=>?_;clear fin3;cases dv3;show z.f ?_;let sr:AH (rs (λb=>b==x||b==c||b==l) H') (rs (λb=>b==x||b==c||b==l) H3):=ud λb o hb e=>u3 b o (λz=>by rw[z]at hb;show cj hb (by rw[show(c==x||c==c||c==l)=ae from Oc];decide)) e;let L3:Lay K cls H H3 x c l ns kd p told:=⟨λb o e=>u3 b o (λz=>by rw[z,s1.free nc]at e;show nn e) (Ly.s b o e),Ly.xc,Ly.xl,Ly.cl,(dq dk fk (u3 _ _ Ly.xc q1) q2 (q3.up sr)),(dq dc3 fc3 t1 t2 t3),u3 _ _ (λe=>Ly.cl e.symm) Ly.t⟩;show⟨_,rfl,?_⟩;rw[bt];by_cases hp:p<ns.length
  .erw[gi yL,⟨λσ2 H2'=>∃m',m'<ns.length-p/\∃v4 kd p told,σ2=[aa (.ref a),aa (.ref x),aa (.ref c),aa (.ref l),v4]/\Lay K cls H H2' x c l ns kd p told/\R kd p told/\m'=ns.length-p,λσ2 H2' h=>h,(QQ λz=>fh (M.step kd p told hR hp) λk' p' ans eA hpp hsz hR'=>b7 L3.k λdk fk q1 q2 q3=>b7 L3.c λdcu fc r1 r2 r3=>z.f ?_)⟩];let hOh3:BU (λb=>b==x||b==c||b==l) H3:=λb hb=>by
    rw[jb,jb]at hb;obtain(hb|hb)|hb:=hb;.rw[eq_of_beq hb,q1];simp
    .rw[eq_of_beq hb,r1];simp
    .rw[eq_of_beq hb,L3.t];simp
   show⟨_,rfl,_,rfl,⟨λb=>b==x||b==c||b==l,[.m "Keeper" kn kd,.m "Cursor" cn [.fl (ns.map D.int),.int (p:ai)]],_,hOh3,.cons (.m Ox q1 q2 q3) (.cons (.m Oc r1 r2 r3) .nil),gd.mpr ⟨λz=>Ly.xc (fq.mp z),gd.mpr ⟨qo,ol⟩⟩,eA,λv H4 fr4 fin4 dv4=>?_⟩⟩;let u4:∀b o,b≠x->b≠c->H3 b=aa o->H4 b=aa o:=λb o hb hb2 e=>fr4 b o (λz=>by show(df.mp z).elim (λz=>hb z) λz=>hb2 (fq.mp z)) e;show QQ λz=>?_;cases fin4 with
   |cons f1 fin4=>
   cases fin4 with
   |cons f2 _=>
   show b7 f1 λdk4 fk4 a1 a2 a3=>?_;clear f1;show b7 f2 λdc4 fc4 b1 b2 b3=>?_;clear f2;let⟨q,rfl,hq⟩:=a9m dv4;show z.f ?_;let hq4:H4 q=aa (.lst (ans.map V.int)):=cq _ _ _ _ hq;let hql:q≠l:=λe=>by clear L0 L3 Ly M Oc Ox a3 b3 dv4 hOh hOh3 q3 r3 sr t3 z;subst e;delta rs at hq;rw[aj Ol]at hq;show nn hq
   let t4:H4 l=aa (.lst (told.map V.int)):=u4 _ _ (λe=>Ly.xl e.symm) (λe=>Ly.cl e.symm) L3.t;show⟨_,rfl,.inl ⟨rfl,_,AR.of t4⟩,_,rfl,q,_,rfl,.inl (AR.of hq4),l,_,_,rfl,rfl,t4,(by rw[bt];lia),⟨_,rfl,.inl ⟨rfl,_,AR.of cy⟩,_,rfl,l,q,_,_,rfl,rfl,cy,(by erw[a9 hql,hq4]),(by erw[e9,bt,bt,qr,hsz]),⟨ns.length-p',by omega,aa (.ref q),k',p',_,rfl,?_,hR',rfl⟩⟩⟩;let sr5:AH (rs (λb=>b==x||b==c||b==l) H4) (rs (λb=>b==x||b==c||b==l) (upd (upd H4 l (.lst (told.map V.int++[.int (ans.map V.int).length]))) l (.lst (told.map V.int++[.int (ans.map V.int).length]++ans.map V.int)))):=ud λb o hb e=>by
    let hbl:b≠l:=λz=>by rw[z]at hb;show cj hb (by rw[show(l==x||l==c||l==l)=ae from Ol];decide)
    erw[a9 hbl,a9 hbl,e]
   show⟨λb o e=>?_,Ly.xc,Ly.xl,Ly.cl,(dq dk4 fk4 (by erw[a9 Ly.xl,a9 Ly.xl,a1]) a2 (a3.up sr5)),(dq dc4 fc4 (by erw[a9 Ly.cl,a9 Ly.cl,b1]) b2 (b3.up sr5)),?_⟩
   .let hbl:b≠l:=λz=>by rw[z]at e;rw[s13 _ _ (s1 _ _ e)]at hl;cases hl
    erw[a9 hbl,a9 hbl,u4 b o (λz=>by rw[z,nx]at e;show nn e) (λz=>by rw[z,s1.free nc]at e;show nn e) (L3.s b o e)]
   .rw[cy,bt];simp
  .rw[gm yL];let e:=M.fin kd p told hR yL;subst e;show⟨_,rfl,k H3 l L3.t⟩
end
end CK
section
namespace L2
open PySem PySem.Spec PyProof.Rows
open PySem.W(WData Codec OpenSpec Well WellAll ReadsW ReadsAllW)
def aq3{R}{cl}:∀{ns us},Vals (wg V.int ns) us->∃as,ReadsAllW R cl h us (ns.map yt) as
 |[],_,r=>by cases r;show⟨_,.nil⟩
 |n::ns,_,r=>by
  cases r with
  |cons r1 r2=>let⟨t,rfl⟩:=r1;show xE (aq3 r2) λas q=>⟨_,.cons (.int n t) q⟩
def aq4{p}:∀{ns vs},awy p h vs (wg yt ns)->Vals (ns.map V.int) vs
 |[],_,x=>by cases x;show .nil
 |n::ns,_,x=>by
  cases x with
  |cons a b=>cases a;show .cons ⟨_,rfl⟩ (aq4 b)
def GC(K:ba)(a:Addr)(o:Obj)(u:HO):Hp:=λb=>if b=a/\K.lookup b=af then aa (.AN o u)else af
def YJ(H:Hp):Prop:=∀b,H b=af\/∃o u,H b=aa (.AN o u)
def aeg{K}(q:GC K a o u b=aa z):b=a/\K.lookup b=af/\z=.AN o u:=by delta GC at q;grind
section
variable{P:de}{w:c9}
def a9q{K}{ns out:ab ak}
 (KX:K.In j.heap)(hns:j.heap.Ns kq mg)(hb:j.heap.Ns auv mb)(hbb:∀x:Str,x≠"__name__"->mb x=MI x)(hlim:j.heap.NoLimit)(hg:j.gens=#[])
 (hwl:awy w.params j.heap vals [.list (ns.map yt)])(hwt:(WData.list (ns.map yt)).weight<=1048576)(hr:ie k ajw)
 (F:∀base:Heap,K.In base->base.Ns kq mg->g8 P w K mg base CX k fa fd [x] sp)(hbind:∀(s)(us),us.length=1->UP s fd ⟨us,[]⟩ (awf [x] us))
 (hsp:∀H a,YJ H->AR K H a (ns.map V.int)->sp [.ref a] H (λv H'=>∃p,v=.ref p/\H' p=aa (.lst (out.map V.int))) λζ ζ ζ=>il)
 (hCX:∀H e s',CX [] H j (λζ ζ ζ=>il) e s'->il):
 v7 (az P w) ajw (.call (.ref fa) ⟨vals,[]⟩) (λr s'=>∃u as,r=.ok (.ret u)/\ReadsW R cl s'.heap u (.list (out.map yt)) as/\OldK j.heap s'.heap/\s'.os=j.os/\MJ s'.gens) j:=by
 obtain⟨a,vs,rfl,ha,hv⟩:∃a vs,vals=[.ref a]/\j.heap.get? a=aa {cls:=.type "list",data:=.seq vs.toArray}/\Vals (ns.map V.int) vs:=by
  cases hwl with
  |cons x y=>
   cases x with
   |list ho hall=>cases y;show⟨_,_,rfl,ho,aq4 hall⟩
 let e:=hv.length;let hz:vs.length<=sizeLine:=by let:=PySem.W.length_le_weightAllW (ns.map yt);let q:WData.weightAll (ns.map yt)<=1048576:=hwt;let z:1048576<=sizeLine:=yD;rw[bt]at this e;lia
 let hO:YJ (GC K a _ _):=λb=>by
  cases q:GC K a {cls:=.type "list",data:=.seq vs.toArray} (.lst (ns.map V.int)) b with
  |none=>show .inl rfl
  |some u=>show d9 (aeg q) λ_ _ e=>.inr ⟨_,_,by rw[e]⟩
 let bu:CH P w (GC K a {cls:=.type "list",data:=.seq vs.toArray} (.lst (ns.map V.int))) j.heap:=λb u q=>by let⟨rfl,_,rfl⟩:=aeg q;show⟨ha,by lia,vs,_,hv,ha⟩
 let hS:AR K (GC K a {cls:=.type "list",data:=.seq vs.toArray} (.lst (ns.map V.int))) a (ns.map V.int):=by
  cases hk:K.lookup a with
  |none=>show .inl (.inr ⟨_,by delta GC;rw[aj ⟨rfl,hk⟩]⟩)
  |some o=>let e2:=KX a o hk;rw[ha]at e2;obtain rfl:=fo e2;show .inr ⟨_,vs.toArray,_,hk,rfl,rfl,rfl,hz,hv⟩
 let hK:∀b u,GC K a {cls:=.type "list",data:=.seq vs.toArray} (.lst (ns.map V.int)) b=aa u->K.lookup b=none:=λb u q=>(aeg q).2.1;let noA:∀{b:Addr}{o:Obj}{es:yf DictEntry}{ep:ai},j.heap.get? b=aa o->o.data=.dict es ep->GC K a {cls:=.type "list",data:=.seq vs.toArray} (.lst (ns.map V.int)) b=none:=fun{b o es ep}e d=>by
  cases q:GC K a {cls:=.type "list",data:=.seq vs.toArray} (.lst (ns.map V.int)) b with
  |none=>rfl
  |some u=>let⟨rfl,_⟩:=aeg q;rw[ha]at e;cases e;cases d
 generalize GC K a _ _=H at hO bu hS hK noA;let kl:∀{b:Addr}{o:Obj},j.heap.get? b=aa o->H b=af->(KD j.heap H).get? b=aa o:=λe n=>ax1 e n;let W:∀{b:Addr}{m:Str->ah a6},j.heap.Ns b m->(KD j.heap H).Ns b m:=fun{b m}zz=>by show kj zz λo es ep e d r=>zb o es ep (kl e (noA e d)) d r
 let nK:∀b o,K.lookup b=aa o->H b=none:=λb o e=>by cases q:H b<;>grind
 let hKb:=λb o e=>kl (KX b o e) (nK b o e);show QK ((F _ hKb (W hns)).run ajw [] j H _ _ _ _ _ hr (⟨rfl,(⟨hKb,W hns,(ap mb (W hb) hbb),au hlim λmc h1 h2=>(ap mc (W h1) h2)⟩),λb o e=>ax2 e,JQ (ax0 _ _),trivial,λb hb=>cj (show b∈[]from hb) yS,bu,.of_eq hg⟩) (hbind j _ rfl) (show Vals [V.ref a] [.ref a]from .cons rfl .nil) (hsp H a hO hS)) λr s' x=>?_;cases r with
 |error e=>show(hCX H e s' x).elim
 |ok fl=>
  cases fl with
  |next=>show ya x
  |brk=>show ya x
  |cont=>show ya x
  |ret u=>
   show QY λz0=>lg x λv H' os bare un hok' zq23_1=>xA zq23_1 λr' q=>?_;let kept:=λb o e=>by
    cases q2:H b with
    |none=>show un.keep b o e q2 (by show λz=>cj (show b∈[]from z) yS) yS
    |some u2=>
     obtain z|⟨ob,u3,z⟩:=hO b;.rw[q2]at z;cases z
     .let⟨e1,_⟩:=bu b _ z;let⟨e2,_⟩:=hok' b _ (un.rm b ob _ z);rw[e]at e1;cases e1;show e2
   let⟨p,rfl,hp⟩:=q;cases r';let⟨_,its,n,rv,e⟩:=hok' p _ hp;let⟨as,hrd⟩:=aq3 (R:=R) (cl:=cl) (h:=s'.heap) rv;apply z0.f;show jx _ _ rfl (ReadsW.list e rfl rfl hrd) (OldK.of_keep kept) os bare
def a9r{k}{q}{loose}{XP}{YP}{d}{K:Params->ba}{CX}{x}{sp:ba->Sp}(N O:Codec.denoteAll r.args->ab ak)
 (hE:∀a,Codec.encAll r.args a=[.list ((N a).map yt)])(hR:∀a,r.ret.enc (bjc r.args r.f a)=.list ((O a).map yt))
 (hwell:r.wellSaid=ae)(hr:ie k ajw)
 (hY:∀(w)(h),YP w h->(K w.params).In h)
 (F:∀(w)(mg)(fa)(h),YP w h->(K w.params).In h->h.Ns kq mg->mg d.name=aa (.ref fa)->
  ∃fd:MN,(∀(s)(us),us.length=1->UP s fd ⟨us,[]⟩ (awf [x] us))/\
   ∀base:Heap,(K w.params).In base->base.Ns kq mg->g8 r.prog w (K w.params) mg base CX k fa fd [x] (sp (K w.params)))
 (hsp:∀(K)(H)(b)(a),YJ H->bjc r.args r.asked a=ae->AR K H b ((N a).map V.int)->
   sp K [.ref b] H (λv H'=>∃p,v=.ref p/\H' p=aa (.lst ((O a).map V.int))) λζ ζ ζ=>il)
 (hCX:∀(H)(s)(e)(s'),CX [] H s (λζ ζ ζ=>il) e s'->il):
 PySem.W.WalkOS q loose XP YP r d [] (λf vs=>PySem.call f vs):=by
 show λw jr s₁ mg mb G Y fa o pm cd doc dV kV ho hd hcd hD hmg hg args vals as hpre W hrd hwl hlo=>au (PySem.W.os_pre_some hpre) λa e1 e2=>?_;let⟨e3,hwi⟩:=Codec.encAll_of_decAll r.args args a e1;subst e3;let KX:=hY w _ Y;rw[hE]at hwl W;show au (F w mg fa _ Y KX G.T.g hmg) λfd hb hF=>PySem.W.enter_call (QK (a9q (R:=[]) (cl:=classAt jr.heap) KX G.T.g G.T.b G.T.builtins G.T.nolimit hg hwl (PySem.W.layableW_iff.mp (mr.mp W _ (bjd _))).2.2 hr hF hb
  (λH b hO hS=>hsp _ H b a hO e2 hS) λH e s'=>hCX H s₁ e s') λr' s' hq=>lg hq λu as' j h1 h2 h3 h4=>?_);clear hq;subst j;rw[<-hR]at h1;show⟨.inl (aau u _ as' rfl (λζ=>rfl) h1 ((OpenSpec.post_iff hwell hwi _ _).mpr rfl) (λz=>NE (z))),h2,h3,h4⟩
end
end L2
end
namespace CK
open PySem PySem.Spec PyProof.Rows L2 DL
def L9(j q W aR:Addr)(c:Str):Addr:=if c="Table"then j else if c="Claim"then q else if c="Keeper"then W else aR
section
variable{P:de}{w:c9}{K:ba}{A:Str->ah a6}{h:Heap}
def a9s(cT:fy K q)(cC:fy K W)(cK:fy K j)(cR:fy K aR)(nT:BG K q "name"/\BG K q "columns"/\BG K q "rows"/\BG K q "places")(nC:BG K W "level"/\BG K W "owner"/\BG K W "tree")
 (nK:BG K j "tables"/\BG K j "claims"/\BG K j "breakers"/\BG K j "histories"/\BG K j "turns"/\BG K j "day"/\BG K j "steps")(nR:BG K aR "calls"/\BG K aR "place"):
 ∀c f,(c,f)∈FL->fy K (L9 q W j aR c)/\BG K (L9 q W j aR c) f:=by let eT:L9 q W j aR "Table"=q:=rfl;let eC:L9 q W j aR "Claim"=W:=rfl;let eK:L9 q W j aR "Keeper"=j:=rfl;let eR:L9 q W j aR "Cursor"=aR:=rfl;intro c f hm;delta FL at hm;simp[VC]at hm;obtain⟨rfl,rfl⟩|⟨rfl,rfl⟩|⟨rfl,rfl⟩|⟨rfl,rfl⟩|⟨rfl,rfl⟩|⟨rfl,rfl⟩|⟨rfl,rfl⟩|⟨rfl,rfl⟩|⟨rfl,rfl⟩|⟨rfl,rfl⟩|⟨rfl,rfl⟩|⟨rfl,rfl⟩|⟨rfl,rfl⟩|⟨rfl,rfl⟩|⟨rfl,rfl⟩|⟨rfl,rfl⟩:=hm;all_goals lia
def a9t{kV doc pm W ct}(X:K.In h)(G:h.Ns kq A)(hfa:A "answers"=aa (.ref fa))
 (a3:NF K kq "answers"=aa (aa (.ref f3)))(l3:K.lookup f3=aa ⟨oc,od,.func (qi "answers" "answers" (F0 PH) (BC PH) (AO PH) .none kV doc pm an W ct),osl⟩)(c3:MU K W "answers"=ae)(k3:og K (.ref f3)=ae)
 (iT:FN K A aT "Table" HJ ["self","name","columns","rows"])(iC:FN K A aC "Claim" L6 ["self","level","owner","tree"])(iK:FN K A j "Keeper" T4 ["self"])(iR:FN K A q "Cursor" PF ["self","calls"])
 (cT:fy K aT)(cC:fy K aC)(cK:fy K j)(cR:fy K q)
 (m1:ID K q "Cursor" "at_end" (inClass (top 116) 1) ["self"])(m2:ID K q "Cursor" "read_number" (inClass (top 116) 2) ["self"])(m3:ID K q "Cursor" "read_text" (inClass (top 116) 3) ["self"])
 (nT:BG K aT "name"/\BG K aT "columns"/\BG K aT "rows"/\BG K aT "places")(nC:BG K aC "level"/\BG K aC "owner"/\BG K aC "tree")
 (nK:BG K j "tables"/\BG K j "claims"/\BG K j "breakers"/\BG K j "histories"/\BG K j "turns"/\BG K j "day"/\BG K j "steps")(nR:BG K q "calls"/\BG K q "place")
 (HL:∀(cls)(base),(∀c f,(c,f)∈FL->fy K (cls c)/\BG K (cls c) f)->Lk P w K A base cls):
 ∃fd:MN,(∀(s)(us),us.length=(["calls"]:ab Str).length->UP s fd ⟨us,[]⟩ ((["calls"]:ab Str).zip us))/\∀base,K.In base->base.Ns kq A->g8 P w K A base ig 104 fa fd ["calls"] (YI K):=by cases(hfa.symm.trans (QW X G a3));show ap _ (λs us hu=>T3 us hu (by intro;show BindsTo.of_eq rfl)) λbase ζ ζ=>(a9p ⟨⟨HL _ base (a9s cT cC cK cR nT nC nK nR),iC,m1,m2,m3⟩,iT⟩ iK iR (zr l3 c3 k3))
end
def acf(l):AM [.tup (AV l)]=aa (.int l.length):=by change aa _=_;rw[aee]
def p8(l:ab α)(i:ai):BQ l i=l[i]?:=by
 unfold BQ DU;rw[aj (Int.natCast_nonneg i)];by_cases h:i<l.length;.rw[aj (avz.mpr h)];rfl
 .rw[ao (λq=>h (avz.mp q)),awz (ajx.mp h)];rfl
def ny(l)(i:ai):AB (.tup (AV l)) (.int i)=(l[i]?).map AE:=by change BQ (AV l) i=_;rw[p8,nv,i9]
def vt(a b):AA .Eq (.int a) (.int b)=aa (.bl (decide (a=b))):=rfl
def a9u(a b):AA .NotEq (.int a) (.int b)=aa (.bl (!decide (a=b))):=rfl
def xg(a b):AA .Lt (.int a) (.int b)=aa (.bl (decide (a<b))):=rfl
def la(a b):AA .Gt (.int a) (.int b)=aa (.bl (decide (b<a))):=rfl
def aeh(a b):AA .GtE (.int a) (.int b)=aa (.bl (decide (b<=a))):=rfl
def dm(f)(a b):AG f (aa a) (aa b)=f a b:=rfl
def cv(a)(l):AF (aa a) (aa l)=aa (a::l):=rfl
def md(a)(b):A0 (aa (.bl a)) b=if a then b else aa (.bl ag):=by cases a<;>rfl
def nz(a)(b):A7 (aa (.bl a)) b=if a then aa (.bl ae)else b:=by cases a<;>rfl
def lm(a):BA (aa (.bl a))=aa (.bl (!a)):=rfl
def cx(a)(x y:ah j):AI (aa (.bl a)) x y=if a then x else y:=by cases a<;>rfl
noncomputable def isNm:Tr->a4
 |.num _=>ae
 |_=>ag
def ACE:Tr->a4
 |.list _=>ae
 |_=>ag
def ahw(b):BJ [AE b,.ty "int"]=aa (.bl (isNm b)):=by cases b<;>rfl
def ahx(b):BJ [AE b,.ty "tuple"]=aa (.bl (ACE b)):=by cases b<;>rfl
def comp_map{j:Type}{f}{e}{p}:∀{l:ab j},(∀a,a∈l->f (e a)=aa (aa (p a)))->A6 f (l.map e)=aa (l.map p)
 |[],_=>rfl
 |a::l,h=>by rw[b9,A6,h a (d7 ..),comp_map λb q=>h b (dj _ q)];rfl
def acg{j:Type}{f}{e}{q:j->a4}{p}:∀{l:ab j},(∀a,a∈l->f (e a)=aa (if q a then aa (p a)else af))->A6 f (l.map e)=aa ((l.filter q).map p):=by
 intro l;induction l with
 |nil=>show λ_=>rfl
 |cons a l I=>intro h;let ih:=I λb W=>h b (dj _ W);grind[b9,A6]
def ahy{j:Type}(p):∀l:ab j,boolsOf (l.map λa=>.bl (p a))=aa (l.map p)
 |[]=>rfl
 |a::l=>by change(boolsOf _).map _=_;rw[ahy p l];rfl
def all_map{j:Type}(p)(l:ab j):B3 [.lst (l.map λa=>.bl (p a))]=aa (.bl (l.all p)):=by change(boolsOf _).map _=_;simp[ahy]
def any_map{j:Type}(p)(l:ab j):anyF [.lst (l.map λa=>.bl (p a))]=aa (.bl (l.any p)):=by change(boolsOf _).map _=_;simp[ahy]
def a9v(a)(l):IR (.tup (a::l)) (aa 1) af=aa (.tup l):=by
 let h1:HT.BL (a::l).length 0 (aa 1)=1:=by rfl
 let h2:HT.BL (a::l).length (a::l).length af=(a::l).length:=rfl;delta IR;grind[DL.cutD]
def aa7(a)(l):BZ (aa (.tup (a::l))) (aa (aa (.int 1))) af=aa (.tup l):=a9v a l
def aad(h:t∈l):BE t<BE (.list l):=by let:=aqf h;change BE t<CY l+1;lia
def dn{u}{l}{n}(h:BE (.list l)<n+1)(m:u∈l):BE u<n:=jf (aad m) (VD h)
def e_s(w)(r):BZ (aa (AE (.list (.word w::r)))) (aa (aa (.int 1))) af=aa (.tup (AV r)):=aa7 _ (AV r)
def e_h(w)(r):AB (AE (.list (.word w::r))) (.int 0)=aa (AE (.word w)):=ny (.word w::r) 0
def aq5:∀(n)(t)(two),BE t<n->LJ n [AE t,EH two]=aa (.bl (fb two t).isSome)
 |0,_,_,h=>yL
 |n+1,t,two,h=>by change AK (XW _ _ _)=_;rw[a57 _ t two λu z=>by let⟨l,e,j⟩:=z;show aq5 n u two (by subst e;show dn h j)];rfl
def aq6(two):∀l,(sv two l).isSome=l.all λt=>(g0 two t).isSome
 |[]=>by rfl
 |t::l=>by rwa[sv,ux,<-aq6 two l];cases g0 two t<;>cases sv two l<;>rfl
def aa8(t)(k)(s)(h:s=S k):AA .Eq (AE t) (.str s)=aa (.bl (BB k t)):=by subst h;show aab t k
def aei(t)(k)(s)(h:s=S k):AA .NotEq (AE t) (.str s)=aa (.bl (!BB k t)):=by subst h;show aac t k
def aq7(h:BB k a=ae):a=.word k:=by
 cases a with
 |word w=>rw[eq_of_beq (h)]
 |_=>trivial
def a9w(two)(a)(r)(h:CN a=ag):g0 two (.list (a::r))=none:=by
 cases a with
 |word w=>trivial
 |num n=>rfl
 |list l=>rfl
def a9x(a)(r)(g1 g2)(h):XX g1 g2 (AE (.list (a::r))) h=CD g1 g2 (AE (.list (a::r))) h (AE a):=by let j:AB (AE (.list (a::r))) (.int 0)=aa _:=ny _ 0;change AI _ _ _=_;rw[j];rfl
def a9y(two)(a)(r)(g1 g2)(h1:∀u,u∈r->g1 [AE u,EH two]=aa (.bl (fb two u).isSome))(h2:∀u,u∈r->g2 [AE u,EH two]=aa (.bl (g0 two u).isSome)):
 XX g1 g2 (AE (.list (a::r))) (EH two)=aa (.ret (.bl (g0 two (.list (a::r))).isSome)):=by
 rw[a9x];cases a with
 |num|list=>rw[a9w two _ r rfl];rfl
 |word w=>
 by_cases c1:w=bje
 .subst c1;obtain _|⟨b,_|⟨c,_|_⟩⟩:=r;.rfl
  .rfl
  .show(eh (a7 Out.ret) (congr (eh A0 (h1 b yS)) (h1 c yS))).trans ?_;change _=aa (Out.ret (.bl ((fb two b).bind λa=>(fb two c).map λb=>bnk a b).isSome));cases fb two b<;>cases fb two c<;>rfl
  .rfl
 by_cases c2:w=bjf
 .subst c2;obtain _|⟨b,_|⟨c,_|_⟩⟩:=r;.rfl
  .rfl
  .show(eh (a7 Out.ret) (congr (eh A0 (h1 b yS)) (h1 c yS))).trans ?_;change _=aa (Out.ret (.bl ((fb two b).bind λa=>(fb two c).map λb=>bnl a b).isSome));cases fb two b<;>cases fb two c<;>rfl
  .rfl
 by_cases c3:w=bjg
 .subst c3;obtain _|⟨b,_|_⟩:=r;.rfl
  .show(eh (a7 Out.ret) (h1 b yS)).trans ?_;rw[<-om (f:=bnm)];rfl
  .rfl
 by_cases c6:w=bjh
 .subst c6;obtain _|⟨b,_|_⟩:=r;.rfl
  .show(eh (a7 Out.ret) (h2 b yS)).trans ?_;rw[<-om (f:=bnn)];rfl
  .rfl
 let hal:((AF ((A6 (λd=>(g2 [d,EH two]).map aa) (AV r)).map D.lst) (aa [])).bind B3).map Out.ret=aa (.ret (.bl (sv two r).isSome)):=by erw[nv,comp_map λt ht=>by rw[h2 t ht];rfl,aq6,eh _ (all_map _ r)]
 let es:BZ (aa (AE (.list (.word w::r)))) (aa (aa (.int 1))) af=aa (.tup (AV r)):=aa7 (.str (S w)) (AV r);by_cases c4:w=bji;.subst c4;change a7 Out.ret _=_;erw[es,hal.trans ?_];rw[<-om (f:=bno)];delta g0;rfl
 by_cases c5:w=bjj;.subst c5;change a7 Out.ret ((AF _ _).bind _)=_;erw[es,hal.trans ?_];rw[<-om (f:=bnp)];delta g0;rfl
 let h:∀k s,s=S k->w≠k->AA .Eq (AE (.word w)) (.str s)=aa (.bl ag):=λk s h q=>by rw[aa8 _ k s h];simp[BB,q]
 let h':∀k s,s=S k->w≠k->AA .NotEq (AE (.word w)) (.str s)=aa (.bl ae):=λk s h q=>by rw[aei _ k s h];simp[BB,q]
 let e:g0 two (.list (.word w::r))=none:=by delta g0;simp[c1,c2,c3,c4,c5,c6]
 rw[e];generalize AE (.list _)=x;delta CD;rwa[h _ "less" rfl c1,h _ "same" rfl c2,h _ "gone" rfl c3,h _ "not" rfl c6,h' _ "and" rfl c4,h' _ "or" rfl c5];rfl
def aq8:∀(n)(t)(two),BE t<n->n<=42->JC n [AE t,EH two]=aa (.bl (g0 two t).isSome)
 |0,_,_,h,_=>yL
 |n+1,t,two,h,q=>by
  change AK _=_;cases t with
  |num m=>rfl
  |word w=>rfl
  |list l=>
   cases l with
   |nil=>rfl
   |cons a r=>rw[a9y two a r _ _ (λu j=>aq5 42 u two (by let:=aad (dj a j);lia)) (λu j=>aq8 n u two (by let:=aad (dj a j);lia) yL)];rfl
end CK
namespace MM
open Vadtta(Bytes Tree Cell Column Row Table Store Cond Claim)
abbrev NL:=ab ai
noncomputable def lt(a b:NL):Prop:=ajy a b=ae
def lt_irrefl:∀a,¬lt a a
 |[]=>gy
 |a::r=>by let j:=lt_irrefl r;grind[lt,ajy]
def n6:lt (a::r) (b::s)↔a<b\/(a=b/\lt r s):=by simp[lt,ajy]
def lt_trans:∀{a b c},lt a b->lt b c->lt a c
 |[],[],_,h,_=>cj h (lt_irrefl _)
 |[],_::_,[],_,h=>cj h gy
 |[],_::_,_::_,_,_=>rfl
 |_::_,[],_,h,_=>cj h gy
 |_::_,_::_,[],_,h=>cj h gy
 |a::r,b::s,c::t,h1,h2=>by
  rw[n6]at h1 h2⊢;obtain h1|⟨rfl,h1⟩:=h1;.lia
  .obtain h2|⟨rfl,h2⟩:=h2;.lia
   .show .inr ⟨rfl,lt_trans h1 h2⟩
def aq9:∀(a b),lt a b\/a=b\/lt b a
 |[],[]=>.inr (.inl rfl)
 |[],_::_=>.inl rfl
 |_::_,[]=>.inr (.inr rfl)
 |a::r,b::s=>by
  rw[n6,n6];obtain h|h|h:=Nat.lt_trichotomy a b;.lia
  .obtain h|h|h:=aq9 r s;all_goals lia
  lia
abbrev Sd(l:ab NL):Prop:=l.Pairwise lt
def p9:∀{l m},Sd l->Sd m->(∀x,x∈l↔x∈m)->l=m
 |[],[],_,_,_=>rfl
 |[],b::m,_,_,h=>cj ((h b).mpr (d7 ..)) yS
 |a::l,[],_,_,h=>cj ((h a).mp (d7 ..)) yS
 |a::l,b::m,hl,hm,h=>by
  rw[Sd,wd]at hl hm;let e:a=b:=by
   obtain e|e:=df.mp ((h a).mp (d7 ..));.omega
   grind[d7,lt_trans,lt_irrefl]
  subst e;rw[p9 hl.2 hm.2 λx=>?_];grind[lt_irrefl]
def aae:∀{l},x∈yu b l↔x=b\/x∈l
 |[]=>by simp[yu]
 |a::r=>by
  delta yu;split;.walk
  .split;.simp
   .rw[df,aae];grind
def ach:∀{l},Sd l->Sd (yu b l)
 |[],_=>by simp[yu]
 |a::r,h=>by
  rw[Sd,wd]at h;delta yu;split;.walk
  .split
   .ext j;show wd.mpr ⟨λx W=>?_,wd.mpr h⟩;obtain e|e:=df.mp W;.subst e;show j
    .show lt_trans j (h.1 x e)
   .ext j;show wd.mpr ⟨λx W=>?_,ach h.2⟩;obtain e|e:=aae.mp W
    .subst e;obtain q|q|q:=aq9 a x;.omega
     .lia
     .show cj q j
    .show h.1 x e
def ahz:∀{bs l},x∈NG bs l↔x∈bs\/x∈l
 |[],l=>by simp[NG]
 |b::bs,l=>by let j:=ahz (x:=x) (bs:=bs) (l:=yu b l);grind[NG,aae]
def ah0:∀{bs l},Sd l->Sd (NG bs l)
 |[],l,h=>h
 |b::bs,l,h=>ah0 (bs:=bs) (ach h)
def a9z(n)(p):Sd (((e6 n).filter p).map λi=>[i]):=by show VE _ (λa b h=>?_) (kg _ yw);grind[n6]
def a90(n)(p):Sd (((e6 n).filter p).map λi=>[i,i+1]):=by show VE _ (λa b h=>?_) (kg _ yw);grind[n6]
def a91(n)(p):Sd (((QX n).filter p).map λq=>[q.1,q.2]):=by show VE _ (λa b h=>h) (kg _ ?_);delta QX;erw[bjk,⟨λi ζ=>VE _ (λa b h=>n6.mpr (.inr ⟨rfl,n6.mpr (.inl h)⟩)) (kg _ yw),yw.imp λh x j y W=>?_⟩];let⟨_,_,rfl⟩:=gx.mp j;let⟨_,_,rfl⟩:=gx.mp W;show n6.mpr (.inl h)
def ara:(i,j)∈QX n↔i<j/\j<n:=by delta QX;grind
def arb:∀{s}{x},bw s T.name=aa T0->bw (cw s T) x=if x=T.name then aa T else bw s x:=by
 intro s x h;let oth:∀s x,x≠T.name->bw (cw s T) x=bw s x:=by
  intro s x hx;induction s with
  |nil=>rfl
  |cons a r ih=>unfold bw cw at ih⊢;grind
 by_cases hx:x=T.name;.induction s with
  |nil=>trivial
  |cons a r ih=>delta bw at h;unfold bw cw at ih⊢;grind
 walk
def find_name(h:bw s x=aa T):T.name=x:=by grind[bw]
noncomputable def ones(n:ai)(p:ai->a4):ab NL:=((e6 n).filter p).map λi=>[i]
def EZ(n:ai)(p:ai->a4):ab NL:=((e6 n).filter p).map λi=>[i,i+1]
noncomputable def tw(n:ai)(p:ai->ai->a4):ab NL:=((QX n).filter λq=>p q.1 q.2).map λq=>[q.1,q.2]
def aej{f:ai->NL}:x∈((e6 n).filter p).map f↔∃i,i<n/\p i=ae/\x=f i:=by grind
def aa9:x∈ones n p↔∃i,i<n/\p i=ae/\x=[i]:=aej
def aba:x∈EZ n p↔∃i,i<n/\p i=ae/\x=[i,i+1]:=aej
def abb:x∈tw n p↔∃i j,i<j/\j<n/\p i j=ae/\x=[i,j]:=by
 delta tw;rw[gx];constructor;.intro h;let⟨⟨a,b⟩,h,rfl⟩:=h;rw[iu,ara]at h;show ic a b h.1.1 h.1.2 h.2 rfl
 .show λh=>fg h λa b h1 h2 W q=>?_;subst q;show ap (a,b) (iu.mpr ⟨ara.mpr ⟨h1,h2⟩,W⟩) rfl
def aci(n)(p):Sd (ones n p):=a9z n p
def aek(n)(p):Sd (EZ n p):=a90 n p
def acj(n)(p):Sd (tw n p):=a91 n λq=>p q.1 q.2
def a92(h:∀i,i<n->p i=q i):ones n p=ones n q:=
 eh (wg _) (J3 λx j=>h x (ka.mp j))
def a93(h:∀i,i<n->p i=q i):EZ n p=EZ n q:=
 eh (wg _) (J3 λx j=>h x (ka.mp j))
def arc{f:ai->NL}:((e6 (n+1)).filter p).map f=if p n then((e6 n).filter p).map f++[f n]else((e6 n).filter p).map f:=by
 rw[VF,ajz,fe,u7];cases p n;.simp
 rfl
def ah1(h:∀i,i<n->p2 i=p i):ones (n+1) p2=if p2 n then ones n p++[[n]]else ones n p:=by erw[<-a92 h,arc]
def a94(h:∀i,i+1<n->p2 i=p i):EZ n p2=if decide (0<n)&&p2 (n-1)then EZ (n-1) p++[[n-1,n]]else EZ (n-1) p:=by
 cases n with
 |zero=>rfl
 |succ m=>erw[show m+1-1=m from rfl,<-a93 λi hi=>h i (Nat.succ_lt_succ hi),arc]
def a95(h:∀i j,i<n->j<n->p2 i j=p i j):tw (n+1) p2=NG (((e6 n).filter λj=>p2 j n).map λj=>[j,n]) (tw n p):=by
 show p9 (acj _ _) (ah0 (acj _ _)) λx=>?_;rw[ahz,abb,aej,abb];constructor
 .rintro⟨i,j,hi,q,hp,rfl⟩;obtain g|rfl:=Nat.lt_or_eq_of_le (VD q);.show .inr (ic i j hi g ((h i j (JW hi g) g)▸hp) rfl)
  .show .inl (et i hi hp rfl)
 .rintro(⟨i,hi,hp,rfl⟩|⟨i,j,hi,q,hp,rfl⟩);.show ic i n hi (si _) hp rfl
  .show ic i j hi (JV q) ((h i j (JW hi q) q).trans hp) rfl
noncomputable def up(i j:ai):Nat:=if j<i then j else j+1
def lw1(h:j<=i):iw i j=j:=ao (ajx.mpr h)
def lw2(h:i<=j):iw i (j+1)=j:=aj (VG h)
def up1{i j:ai}(h:j<i):up i j=j:=aj h
def vw(h:i<=j):up i j=j+1:=ao (ajx.mpr h)
def ah2(i j):iw i (up i j)=j:=by
 obtain h|h:=QZ j i;.rw[up1 h,lw1 (sg h)]
 .rw[vw h,lw2 h]
def n8(h:j≠i):up i (iw i j)=j:=by
 obtain h|h:=bjl h;.rw[lw1 (sg h),up1 h]
 .let⟨j,rfl⟩:=bjm (bjn h);simp_all[lw2,VD,vw]
def ael(i j):up i j≠i:=by
 obtain h|h:=QZ j i;.erw[up1 h,g9 h]
 .erw[vw h,uq (VG h)]
def r8(h:i<n):up i j<n↔j<n-1:=by
 cases n with
 |zero=>simp
 |succ n=>
  obtain g|g:=QZ j i;.erw[up1 g,⟨λq=>jf g (VD h),JV⟩]
  .rw[vw g];simp
def ard:up i j<up i k↔j<k:=by
 obtain g|g:=QZ j i<;>obtain f|f:=QZ k i;.simp_all[up1]
 .erw[up1 g,vw f,⟨λq=>jf g f,JV⟩]
 .erw[vw g,up1 f,⟨ZX,λh=>cj (JW h f) (ajx.mpr g)⟩]
 simp_all[vw]
def ah3(h:j≠i)(h2:k≠i):iw i j<iw i k↔j<k:=by rw[<-ard,n8 h,n8 h2]
def arf:∀{a b},i∉a->i∉b->lt a b->lt (a.map (iw i)) (b.map (iw i))
 |[],[],_,_,h=>h
 |[],_::_,_,_,_=>rfl
 |_::_,[],_,_,h=>h
 |a::r,b::s,ha,j,h=>by
  rw[df,sk]at ha j;rw[n6]at h;rw[b9,b9,n6];obtain h|⟨rfl,h⟩:=h;.show .inl ((ah3 (λe=>ha.1 e.symm) (λe=>j.1 e.symm)).mpr h)
  .show .inr ⟨rfl,arf ha.2 j.2 h⟩
def ack:x∈jm i l↔∃b,b∈l/\i∉b/\x=b.map (iw i):=by delta jm;grind
def a96(hi:∀b,b∈l->i∉b)(h:Sd l):Sd (l.map λb=>b.map (iw i)):=
 NH.mpr (aj0 (λha j q=>arf (hi _ ha) (hi _ j) q) h)
def acm(h:Sd l):Sd (jm i l):=
 a96 (λb j z=>by grind) (kg _ h)
def ah4{n i}{p p2}(hi:i<n)(h:∀j,j<n-1->p2 j=p (up i j)):jm i (ones n p)=ones (n-1) p2:=by
 show p9 (acm (aci _ _)) (aci _ _) λx=>?_;rw[ack,aa9];constructor;.rintro⟨b,W,hn,rfl⟩;let⟨j,q,hp,rfl⟩:=aa9.mp W;let e:=n8 λe:j=i=>hn (e▸d7);let k:=(r8 hi).mp (e.symm▸q);walk
 .rintro⟨j,q,hp,rfl⟩;show⟨[up i j],aa9.mpr ⟨up i j,(r8 hi).mpr q,(h j q)▸hp,rfl⟩,λz=>ael i j (fq.mp z).symm,by rw[VH,ah2]⟩
def n2{a b i:ai}:i∉[a,b]↔i≠a/\i≠b:=by simp
def a97{n i}{p p2}(hi:i<n)(h:∀j k,j<n-1->k<n-1->p2 j k=p (up i j) (up i k)):jm i (tw n p)=tw (n-1) p2:=by
 show p9 (acm (acj _ _)) (acj _ _) λx=>?_;rw[ack,abb];constructor;.rintro⟨b,hb,hn,rfl⟩;show fg (abb.mp hb) λj k q hk hp W=>?_;subst W;rw[n2]at hn;let a:=n8 hn.1.symm;let b:=n8 hn.2.symm;let h2:=(r8 hi).mp (b.symm▸hk);show ic _ _ ((ah3 hn.1.symm hn.2.symm).mpr q) h2 (by rw[h _ _ ((r8 hi).mp (a.symm▸JW q hk)) h2,a,b];omega) rfl
 .rintro⟨j,k,q,hk,hp,rfl⟩;show⟨[up i j,up i k],abb.mpr ⟨up i j,up i k,ard.mpr q,(r8 hi).mpr hk,(h j k (JW q hk) hk)▸hp,rfl⟩,n2.mpr ⟨(ael i j).symm,(ael i k).symm⟩,by simp[b9,VH,ah2]⟩
def a98{n i}{p p2}(hi:i<n)(h:∀j,j+1<n-1->j+1≠i->p2 j=p (up i j)):
 EZ (n-1-1) p2=if decide (0<i/\i<n-1)&&p2 (i-1)then yu [i-1,i] (jm i (EZ (n-1) p))else jm i (EZ (n-1) p):=by
 let key:∀x,x∈jm i (EZ (n-1) p)↔∃j,j+1<n-1/\j+1≠i/\p2 j=ae/\x=[j,j+1]:=by
  intro x;rw[ack];constructor
  .rintro⟨b,hb,hn,rfl⟩;let⟨j,W,hp,rfl⟩:=aba.mp hb;rw[n2]at hn;rw[b9,VH];obtain g|g:=bjl hn.1;.let⟨j,rfl⟩:=bjm (bjn g);let g:=VD g;erw[lw2 g,lw2 (bjo g),⟨j,W,uq (VG g),by erw[h j W (uq (VG g)),vw g,hp],rfl⟩]
   .let f:=bjp (bjq g) hn.2.symm;let k:=jf f (Nat.le_sub_one_of_lt hi);erw[lw1 (sg g),lw1 (sg f),⟨j,k,hn.2.symm,by erw[h j k hn.2.symm,up1 g,hp],rfl⟩]
  .rintro⟨j,h1,h2,hp,rfl⟩;rw[h j h1 h2]at hp;obtain g|g:=QZ j i;.rw[up1 g]at hp;show⟨_,aba.mpr ⟨j,ZX h1,hp,rfl⟩,n2.mpr ⟨uq g,h2.symm⟩,by rw[b9,VH,lw1 (sg g),lw1 (sg (bjp (bjq g) h2))]⟩
   .rw[vw g]at hp;let f:=VG g;show⟨_,aba.mpr ⟨j+1,h1,hp,rfl⟩,n2.mpr ⟨g9 f,g9 (JV f)⟩,by rw[b9,VH,lw2 g,lw2 (sg f)]⟩
 let hs:Sd (jm i (EZ (n-1) p)):=acm (aek _ _);let lt:∀{j},j<n-1-1↔j+1<n-1:=Nat.lt_sub_iff_add_lt;split
 .ext hc;rw[cg,ym]at hc;show p9 (aek _ _) (ach hs) λx=>?_;rw[aae,key,aba];constructor
  .rintro⟨j,W,hp,rfl⟩;by_cases hq:j+1=i;.left;rw[<-hq];rfl
   .show .inr ⟨j,lt.mp W,hq,hp,rfl⟩
  .rintro(rfl|⟨j,h1,h2,hp,rfl⟩);.let e:=Nat.sub_add_cancel hc.1.1;show⟨i-1,lt.mpr (e.symm▸hc.1.2),hc.2,by rw[e]⟩
   .show et j (lt.mpr h1) hp rfl
 .ext hc;show p9 (aek _ _) hs λx=>?_;rw[key,aba];constructor;.rintro⟨j,W,hp,rfl⟩;show⟨j,lt.mp W,λq=>hc ?_,hp,rfl⟩;subst q;walk
  .rintro⟨j,h1,h2,hp,rfl⟩;show et j (lt.mpr h1) hp rfl
section
variable{K:Type}[QB K]
noncomputable def cls(key:ai->K)(n i:ai):NL:=(e6 n).filter λj=>decide (key j=key i)
def D7(key:ai->K)(i:ai):Bool:=(e6 i).all λj=>decide (key j≠key i)
def D8(key:ai->K)(n:ai):NL:=(e6 n).filter (D7 key)
def B0(key:ai->K)(n:ai):ab NL:=(D8 key n).map (cls key n)
def uf{key:ai->K}:D7 key i=ae↔∀j,j<i->key j≠key i:=by simp[D7]
def qa{key:ai->K}:j∈cls key n i↔j<n/\key j=key i:=by delta cls;simp
def aaf{key:ai->K}{n i j}(h:key i=key j):cls key n i=cls key n j:=by delta cls;rw[h]
def ah5(key:ai->K):∀(n i),i<n->∃j,j<=i/\D7 key j=ae/\key j=key i:=by
 intro n;induction n with
 |zero=>lia
 |succ m ih=>
  intro i hi;cases hf:D7 key i with
  |true=>show⟨i,b8 _,hf,rfl⟩
  |false=>
   let:¬∀j,j<i->key j≠key i:=λq=>by rw[uf.mpr q]at hf;trivial
   let:∃j,j<i/\key j=key i:=by walk
   show au this λj hj e=>bz (ih j yL) λk hk W hk3=>⟨k,yL,W,by rw[hk3,e]⟩
def ah6{key:ai->K}(hi:i<n)(hf:D7 key i=ae):∃r,cls key n i=i::r:=by
 rw[uf]at hf;let h:cls key n i=(e6 i).filter (λj=>decide (key j=key i))++((e6 (n-i)).map (i+.)).filter (λj=>decide (key j=key i)):=by delta cls;rw[<-ajz,<-List.range_add,show i+_=n by lia]
 let h1:(e6 i).filter (λj=>decide (key j=key i))=[]:=by walk
 obtain⟨m,hm⟩:∃m,n-i=m+1:=⟨n-i-1,yL⟩;simp_all[avq]
def aag{key:ai->K}:g∈B0 key n↔∃i,i<n/\g=cls key n i:=by
 unfold B0 D8;rw[gx];constructor;.intro h;let⟨i,h,rfl⟩:=h;show ap i (ka.mp (iu.mp h).1) rfl
 .intro h;let⟨i,h1,rfl⟩:=h;show bz (ah5 key n i h1) λj q hf e=>ap j (iu.mpr ⟨ka.mpr (av3 q h1),hf⟩) (aaf e)
def abc(key:ai->K)(n):Sd (B0 key n):=by unfold B0 D8;show NH.mpr (aj0 (fun{a b}ha j h=>?_) (kg _ yw));rw[iu,ka]at ha j;let⟨r,hr⟩:=ah6 ha.1 ha.2;let⟨t,q⟩:=ah6 j.1 j.2;erw[hr,q,n6.mpr (.inl h)]
def vx(key:ai->K)(n i):cls key (n+1) i=if key n=key i then cls key n i++[n]else cls key n i:=by delta cls;rw[VF,ajz,u7,VI];grind
def a99{u:NL->NL}:∀{l:ab NL}{k},l.Pairwise (λa b=>p a=ae->p b=ae->il)->l.findIdx? p=aa k->l.set k (u ((l[k]?).getD []))=l.map λg=>if p g then u g else g:=by
 intro l;induction l with
 |nil=>intro k _ h;rfl
 |cons a r I=>
  intro k hp h;rw[wd]at hp;rw[aw0]at h;cases ha:p a with
  |true=>rw[ha]at h;injection h with h;subst h;simp_all[jw]
  |false=>rw[ha]at h;let⟨q,j,rfl⟩:=Option.map_eq_some_iff.mp h;walk
def ACF(al:ai->ai->a4)(l:ab NL)(i:ai):ab NL:=match l.findIdx? λg=>(g.head?).any λj=>al i j with
 |none=>l++[[i]]
 |some k=>l.set k (((l[k]?).getD [])++[i])
def ah7(key:ai->K)(n):D8 key (n+1)=if D7 key n then D8 key n++[n]else D8 key n:=by
 delta D8;rw[VF,ajz,u7];cases D7 key n;.simp
 rfl
def arh{key:ai->K}(h:∀i j,al i j=decide (key i=key j)):∀n,(e6 n).foldl (ACF al) []=B0 key n
 |0=>rfl
 |n+1=>by
  simp[VF,arh h n];let q:∀a,a∈D8 key n->a<n/\D7 key a=true:=λa ha=>by let:=iu.mp ha;show⟨ka.mp this.1,this.2⟩
  let hp:∀a,a∈D8 key n->((cls key n a).head?).any (λj=>al n j)=decide _:=λa ha=>by let⟨r,hr⟩:=ah6 (q a ha).1 (q a ha).2;rw[hr,List.head?_cons,Option.any_some,h]
  let hgr:B0 key (n+1)=(D8 key n).map (λa=>if key n=key a then cls key n a++[n]else cls key n a)++(if D7 key n then[cls key (n+1) n]else[]):=by
   delta B0;rw[ah7];cases hf:D7 key n;.erw[ao gy,ao gy,ip,jw λa ζ=>vx key n a]
   .rw[aj rfl,aj rfl,fe];congr 1;show jw λa ζ=>vx key n a
  rw[hgr];delta ACF;split
  .ext hn;rw[bjr]at hn;let hno:∀a,a∈D8 key n->key n≠key a:=λa ha e=>by let:=hn _ (qp ha);rw[hp a ha]at this;lia
   let hf:D7 key n=true:=uf.mpr λj hj e=>bz (ah5 key n j hj) λk hk W hk3=>hno k (iu.mpr ⟨ka.mpr yL,W⟩) (by rw[hk3,e]);rw[hf,aj rfl];congr 1;.show(jw λa ha=>by rw[ao (hno a ha)])
   .let:cls key n n=[]:=by delta cls;erw[bjs,λj hj e=>uf.mp hf j (ka.mp hj) (by simpa using e)]
    rw[vx,aj rfl,this];rfl
  .ext k hk;let hpw:(B0 key n).Pairwise (λa b=>((a.head?).any λj=>al n j)=ae->((b.head?).any λj=>al n j)=ae->il):=by delta B0;erw[NH,aj0 (fun{a b}ha hb hab=>?_) (kg _ (yw))];simp[hp a ha,hp b hb];show λe1 e2=>uf.mp (q b hb).2 a hab (by rw[<-e1,e2])
   rw[a99 (u:=λg=>g++[n]) hpw hk];let hf:D7 key n=false:=by
    show au (aj1.mp hk) λhk1 W _=>?_;let⟨a,ha,e⟩:=gx.mp (ZW hk1);rw[<-e,hp a ha,ym]at W;cases hq:D7 key n;.rfl
    .show cj W.symm (uf.mp hq a (q a ha).1)
   delta B0;walk
def a_a{key:ai->K}(h:i<n):cls key n i≠[]:=λe=>by let:i∈cls key n i:=qa.mpr ⟨h,rfl⟩;walk
def a_b{key key2:ai->K}(h:∀i,i<n->key2 i=key i):b∈B0 key2 (n+1)↔b=cls key2 n n++[n]\/(b∈B0 key n/\b≠cls key2 n n):=by
 let hc:∀i,i<n->cls key2 n i=cls key n i:=λi hi=>by delta cls;grind[J3]
 rw[aag,aag];constructor
 .rintro⟨i,hi,rfl⟩;rw[vx];by_cases e:key2 n=key2 i;.left;rw[aj e,aaf e]
  .let hin:i<n:=by grind
   right;erw[ao e,⟨⟨i,hin,hc i hin⟩,λq=>?_⟩];let:i∈cls key2 n i:=qa.mpr ⟨hin,rfl⟩;rw[q]at this;show e (qa.mp this).2.symm
 .rintro(rfl|⟨⟨i,hi,rfl⟩,hne⟩);.show⟨n,yL,by rw[vx,aj rfl]⟩
  .show⟨i,yL,?_⟩;rw[vx,ao,hc i hi];intro e;rw[<-hc i hi,<-aaf e]at hne;show hne rfl
def aem{key key2:ai->K}{n i}(hi:i<n)(h:∀j,j<n-1->key2 j=key (up i j)){j}(hj:j<n-1):cls key2 (n-1) j=((cls key n (up i j)).filter λa=>a !=i).map (iw i):=by
 let W:∀{l m:NL},l.Pairwise (λa b=>a<b)->m.Pairwise (λa b=>a<b)->(∀x,x∈l↔x∈m)->l=m:=by
  intro l m hl hm hx;let h1:Sd (l.map λa=>[a]):=by erw[Sd,NH,VJ (fun{a b}q=>n6.mpr (.inl q)) hl]
  let h2:Sd (m.map λa=>[a]):=by erw[Sd,NH,VJ (fun{a b}q=>n6.mpr (.inl q)) hm]
  let h3:=p9 h1 h2 λx=>by walk
  simpa[Function.comp_def]using(eh (wg λx=>x.headD 0) h3)
 show W (kg _ yw) ?_ λx=>?_;.erw[NH,aj0 (fun{a b}ha hb hab=>?_) (kg _ (kg _ (yw)))];simp_all[ah3]
 grind[qa,up,r8,ael,ah2,n8]
def ari{l:NL}(h:i∉l):(l.filter λa=>a !=i)=l:=by grind[List.filter_eq_self]
def a_c{key key2:ai->K}{n i}(hi:i<n)(h:∀j,j<n-1->key2 j=key (up i j)){b}:b∈B0 key2 (n-1)↔(b=((cls key n i).filter λa=>a !=i).map (iw i)/\b≠[])\/∃c,c∈B0 key n/\c≠cls key n i/\i∉c/\b=c.map (iw i):=by
 rw[aag];constructor
 .rintro⟨j,hj,rfl⟩;by_cases e:key (up i j)=key i;.left;show⟨by rw[aem hi h hj,aaf e],a_a hj⟩
  .right;let W:i∉cls key n _:=λq=>e (qa.mp q).2.symm;show wq _ (aag.mpr ⟨up i j,(r8 hi).mpr hj,rfl⟩) (λq=>?_) W ?_;.let:i∈cls key n i:=qa.mpr ⟨hi,rfl⟩;lia
   .rw[aem hi h hj,ari W]
 .rintro(⟨rfl,hne⟩|⟨c,hc,hne,W,rfl⟩)
  .let:∃a,a∈(cls key n i).filter λa=>a !=i:=by walk
   let⟨a,ha⟩:=this;simp[qa]at ha;let⟨⟨h1,h2⟩,h3⟩:=ha;let hl:iw i a<n-1:=by rw[<-r8 hi,n8 h3];omega
   show⟨iw i a,hl,?_⟩;rw[aem hi h hl,n8 h3,aaf h2]
  .let⟨a,ha,rfl⟩:=aag.mp hc;let h3:a≠i:=λe=>hne (by rw[e]);let hl:iw i a<n-1:=by rw[<-r8 hi,n8 h3];omega
   show⟨iw i a,hl,?_⟩;rw[aem hi h hl,n8 h3,ari W]
def a_d{key:ai->K}(hc:c∈B0 key n)(hi:i<n):c=cls key n i\/i∉c:=by
 let⟨a,ha,rfl⟩:=aag.mp hc;by_cases e:key i=key a;.grind[aaf]
 .show .inr λq=>e (qa.mp q).2
end
section
variable{s:sy}{t:Bytes}{T:gj}(h:bw s t=aa T)
include h
def aah(c):a8 s (.each t c)=ones T.count λi=>!(c.holds T.cols (T.row i) (T.row i)):=by delta a8;simp[i3,h];rfl
def abd(c):a8 s (.any t c)=if T.rows.any λr=>c.holds T.cols r r then[]else[[]]:=by delta a8;simp[i3,h]
def aai(c):a8 s (.pairs t c)=tw T.count λi j=>!(c.holds T.cols (T.row i) (T.row j)):=by delta a8;simp[i3,h];rfl
def aaj(c):a8 s (.next t c)=EZ (T.count-1) λi=>!(c.holds T.cols (T.row i) (T.row (i+1))):=by delta a8;simp[i3,h];rfl
def aak(cs):a8 s (.key t cs)=tw T.count λi j=>qt T cs (T.row i) (T.row j):=by delta a8;simp[i3,h];rfl
def aal(cs ds):a8 s (.fixes t cs ds)=tw T.count λi j=>qt T cs (T.row i) (T.row j)&&!(qt T ds (T.row i) (T.row j)):=by delta a8;simp[i3,h];rfl
def acn(j:bw s u=af)(cs ds):a8 s (.refers t cs u ds)=[]:=by delta a8;lia
def me(j:bw s u=aa V)(cs ds):a8 s (.refers t cs u ds)=ones T.count λi=>!(oo T V cs ds (T.row i)):=by delta a8;simp[i3,h,j];rfl
noncomputable def keyOf(T:gj)(cs:ab Bytes)(i:ai):ab Cell:=f9 T cs (T.row i)
omit h in
def a_e(T:gj)(cs:ab Bytes):Vadtta.groupsOf T cs=B0 (keyOf T cs) T.count:=by rw[<-arh (key:=keyOf T cs) (al:=λi j=>qt T cs (T.row i) (T.row j)) (λi j=>by unfold qt keyOf;rw[oj,qh,ym])];rfl
def abe(cs)(a)(lo hi):a8 s (.groups t cs a lo hi)=(B0 (keyOf T cs) T.count).filter λg=>!(lb T a lo hi g):=by delta a8;rwa[i3,h,a_e];rfl
end
def aco(h:bw s k.table=af):a8 s k=[]:=by delta a8;rw[h]
def aen(h:∀y,y∈k.tables->bw s2 y=bw s y):a8 s2 k=a8 s k:=by cases k<;>delta a8<;>simp_all[i3,my]
def BD(T:gj)(r:Row):Table:={T with rows:=T.rows++[r]}
def BH(T:gj)(i:ai):Table:={T with rows:=T.rows.eraseIdx i}
def qb(h:j<T.count):(BD T r).row j=T.row j:=by unfold BD VL;simp[yh];rw[UW h]
def abf(T)(r):(BD T r).row T.count=r:=by unfold BD VL;simp[yh];rw[show T.count=T.rows.length from rfl,bi5];rfl
def r9(T)(r):(BD T r).count=T.count+1:=by unfold BD Table.count;simp
def sd(T)(i j):(BH T i).row j=T.row (up i j):=by unfold BH VL up;grind
def ug(h:i<T.count):(BH T i).count=T.count-1:=List.length_eraseIdx_of_lt h
def arj(T)(r)(cs):f9 (BD T r) cs=f9 T cs:=rfl
def acp{T:gj}:x∈T.rows↔∃i,i<T.count/\T.row i=x:=by
 rw[aj2];constructor;.rintro⟨i,h,rfl⟩;show⟨i,h,by delta VL;walk⟩
 .rintro⟨i,h,rfl⟩;show⟨i,h,by delta VL;rw[yh,gz h];rfl⟩
def a_f(h:∀j,j∈g->j<T.count)(a):NI (BD T r) a g=NI T a g:=by
 cases a with
 |none=>rfl
 |some c=>change((g.map _).foldl _ 0)=((g.map _).foldl _ 0);rw[jw λj q=>?_];delta bjt;rw[qb (h j q)];rfl
def ark(h:i∉g)(a):NI (BH T i) a (g.map (iw i))=NI T a g:=by
 cases a with
 |none=>simp[NI]
 |some c=>change(((g.map _).map _).foldl _ 0)=((g.map _).foldl _ 0);rw[el,jw λj q=>?_];delta bjt;rw[aw1,sd,n8 (λe=>h yL)];rfl
def a_g[QB K]{key:ai->K}(h:j∈cls key n i):j<n:=(qa.mp h).1
def arl[QB K]{key:ai->K}(hg:g∈B0 key n)(h:j∈g):j<n:=by let⟨i,_,rfl⟩:=aag.mp hg;show a_g h
def arn{p q g:ai->a4}(h:∀i,i<n->g i=(p i||q i)):(ones n λi=>!p i).filter (λb=>!q (b.headD 0))=ones n λi=>!g i:=by delta ones;rw[bju,List.filter_filter];congr 1;show J3 λi hi=>?_;rw[h i (ka.mp hi)];change(!q i&&!p i)=_;cases p i<;>cases q i<;>rfl
def aro(cs ds)(y):oo V (BD T r) cs ds y=(oo V T cs ds y||(f9 V cs y==f9 T ds r)):=by delta oo;rwa[show(BD T r).rows=T.rows++[r]from rfl,bjv,bjw];congr 2;erw[MZ,List.any_nil,yd,oj,qh,qh,eq_comm]
def a_h{p p2:ai->ai->a4}(hp:∀i j,i<n->j<n->p2 i j=p i j)(W:∀j,j<n->q j=p2 j n):NG (((e6 n).filter q).map λj=>[j,n]) (tw n p)=tw (n+1) p2:=by rw[a95 hp,J3 λj hj=>W j (ka.mp hj)]
def fp{T T':gj}(q:bw s x=aa T)(j:T'.name=x):bw (cw s T') x=aa T'/\∀{y},y≠x->bw (cw s T') y=bw s y:=by
 let hf:∀y,bw (cw s T') y=if y=x then aa T' else bw s y:=λy=>by let:=arb (T:=T') (T0:=T) (s:=s) (x:=y) (by erw[j,q]);rw[j]at this;show this
 show⟨by rw[hf,aj rfl],λh=>by rw[hf,ao h]⟩
def a_i(hx:bw s x=aa T)(k):
 aj3 s (cw s (BD T r)) x r k (a8 s k)=a8 (cw s (BD T r)) k:=by
 let⟨W,hfo⟩:=fp (T':=BD T r) hx (find_name (T:=T) hx);generalize hs2:cw s (BD T r)=s2 at*;by_cases hne:∀y,y∈k.tables->y≠x;.rw[aen (s:=s) λy hy=>hfo (hne y hy)];let hkt:(k.table==x)=false:=i8.mpr (hne _ (by cases k<;>simp[my,i3]));delta aj3;rw[hfo (hne _ (by cases k<;>simp[my,i3]))];cases bw s k.table with
  |none=>rfl
  |some t=>
   rwa[hkt,JO,ao gy];cases k with
   |refers t' cs u ds=>let hu:(u==x)=false:=i8.mpr (hne _ (by simp[my]));rwa[hu,ao gy];split<;>rfl
   |_=>rfl
 by_cases hT:k.table=x;.delta aj3;rw[hT,hx,W];clear hne;cases k with
  |each t c=>obtain rfl:t=x:=hT;rwa[gp,oq,aah hx,aah W,r9];rw[ah1 (p:=λi=>!(c.holds T.cols (T.row i) (T.row i))) (λi hi=>by rw[qb hi];rfl),abf];rfl
  |any t c=>
   obtain rfl:t=x:=hT;rwa[gp,oq,abd hx,abd W];let e:((BD T r).rows.any λr'=>c.holds (BD T r).cols r' r')=((T.rows.any λr'=>c.holds T.cols r' r')||c.holds T.cols r r):=by delta BD;rw[bjv];simp
   rw[e];cases(T.rows.any λr'=>c.holds T.cols r' r')<;>cases c.holds T.cols r r<;>rfl
  |pairs t c|key t c|fixes t c d=>obtain rfl:t=x:=hT;rwa[gp,jk,aai hx,aai W,aak hx,aak W,aal hx,aal W,r9];show a_h (λi j hi hj=>by rw[qb hi,qb hj];rfl) λj hj=>by rw[abf,qb hj];rfl
  |next t c=>
   obtain rfl:t=x:=hT;rwa[gp,oq,aaj hx,aaj W,r9,Nat.add_sub_cancel];rw[a94 (n:=T.count) (p:=λi=>!(c.holds T.cols (T.row i) (T.row (i+1)))) (λi hi=>by rw[qb yL,qb hi];rfl)];by_cases h0:0<T.count;.rw[show T.count-1+1=T.count by lia,abf,qb yL];rfl
   .rwa[h0,bjx,JO]
  |refers t cs u ds=>
   obtain rfl:t=x:=hT;by_cases hu:u=t
   .subst hu;rwa[gp,oq,jk,W,me hx hx,me W W,r9];let hm:(ones T.count λi=>!(oo T T cs ds (T.row i))).filter (λb=>!(f9 T cs (T.row (b.headD 0))==f9 (BD T r) ds r))=ones T.count λi=>!(oo (BD T r) (BD T r) cs ds ((BD T r).row i)):=arn (q:=λi=>f9 T cs (T.row i)==_) λi hi=>by erw[qb hi,aro (V:=T) cs ds _]
    rw[hm,ah1 (λi hi=>rfl),abf]
   .let hub:(u==t)=false:=i8.mpr hu;cases hv:bw s u with
    |none=>rwa[hfo hu,hv,acn hx hv,acn W ((hfo hu).trans hv)]
    |some V=>rwa[hfo hu,hv,hub,gp,oq,me hx hv,me W ((hfo hu).trans hv),r9,ao gy];rw[ah1 (p:=λi=>!(oo T V cs ds (T.row i))) (λi hi=>by rw[qb hi];rfl),abf]
  |groups t cs a lo hi=>
   obtain rfl:t=x:=hT;rwa[gp,jk,abe hx,abe W,r9];let hk1:∀i,i<T.count->keyOf (BD T r) cs i=keyOf T cs i:=λi hi=>by delta keyOf;rw[qb hi,arj]
   let hg:((e6 T.count).filter λj=>qt T cs (T.row j) r)=cls (keyOf (BD T r) cs) T.count T.count:=by delta cls;show J3 λj hj=>?_;rw[hk1 j (ka.mp hj)];unfold keyOf qt;rw[abf,arj,oj,qh,ym]
   rw[hg];let hmem:=λb:NL=>a_b (b:=b) (key:=keyOf T cs) (key2:=keyOf (BD T r) cs) (n:=T.count) hk1;let hbad:∀b,b∈B0 (keyOf T cs) T.count->lb (BD T r) a lo hi b=lb T a lo hi b:=λb hb=>by delta lb;rw[a_f λj hj=>arl hb hj]
   let hs:Sd (((B0 (keyOf T cs) T.count).filter λg=>!(lb T a lo hi g)).filter λb=>b !=cls (keyOf (BD T r) cs) T.count T.count):=kg _ (kg _ (abc _ _));split
   .ext hfi;show p9 hs (kg _ (abc _ _)) λb=>?_;rwa[iu,hmem,aj4];constructor;.rintro⟨⟨h1,h2⟩,h3⟩;show⟨.inr ⟨h1,h3⟩,by erw[hbad b h1,h2]⟩
    .rintro⟨rfl|⟨h1,h2⟩,h3⟩;.rw[hfi]at h3;cases h3
     .show⟨⟨h1,by erw[<-hbad b h1,h3]⟩,h2⟩
   .ext hfi;show p9 (ach hs) (kg _ (abc _ _)) λb=>?_;rwa[aae,iu,hmem,aj4];constructor
    .rintro(rfl|⟨⟨h1,h2⟩,h3⟩);.show⟨.inl rfl,by simp at hfi;rw[hfi];rfl⟩
     .show⟨.inr ⟨h1,h3⟩,by erw[hbad b h1,h2]⟩
    .rintro⟨rfl|⟨h1,h2⟩,h3⟩;.show .inl rfl
     .show .inr ⟨⟨h1,by erw[<-hbad b h1,h3]⟩,h2⟩
 .cases k with
  |refers t cs u ds=>
   let ht:t≠x:=hT;let hu:u=x:=by
    show UG λq=>hne λy hy=>?_;rwa[my,df,qo,VC]at hy;obtain rfl|rfl:=hy;.show ht
    .show q
   subst hu;let htb:(t==u)=false:=i8.mpr ht;delta aj3;rw[i3];cases hv:bw s t with
   |none=>rwa[aco (s:=s) (k:=.refers t cs u ds) hv,aco (s:=s2) (k:=.refers t cs u ds) ((hfo ht).trans hv)]
   |some V=>rwa[hfo ht,hv,W,htb,JO,ao gy,gp,jk,me hv hx,me ((hfo ht).trans hv) W];show arn (q:=λi=>f9 V cs (V.row i)==_) λi hi=>aro cs ds _
  |_=>show cj (λy hy=>by rwa[my,i3,fq]at hy;erw[hy,hT]) hne
def arp(hi:i<T.count):(T.rows.any p)=((BH T i).rows.any p||p (T.row i)):=by
 rw[oj,jb,aju,aju];constructor
 .rintro⟨y,hy,hp⟩;let⟨j,hj,rfl⟩:=acp.mp hy;by_cases e:j=i;.lia
  .show .inl ⟨T.row j,acp.mpr ⟨iw i j,?_,?_⟩,hp⟩;.grind[ug,r8,n8]
   .rw[sd,n8 e]
 .rintro(⟨y,hy,hp⟩|hp);.let⟨j,hj,rfl⟩:=acp.mp hy;rw[ug hi]at hj;show ap _ (acp.mpr ⟨up i j,(r8 hi).mpr hj,(sd T i j).symm⟩) hp
  .show⟨_,acp.mpr (ap i hi rfl),hp⟩
def arq(hi:i<T.count)(cs ds)(y):oo V T cs ds y=(oo V (BH T i) cs ds y||(f9 V cs y==f9 T ds (T.row i))):=by delta oo;rw[arp hi,bjw,ajs];rfl
def ars{p q g:ai->a4}(h:∀i,i<n->p i=(g i||q i)):NG (((e6 n).filter λj=>q j&&!g j).map λj=>[j]) (ones n λi=>!p i)=ones n λi=>!g i:=by
 show p9 (ah0 (aci _ _)) (aci _ _) λz=>?_;rw[ahz,aej,aa9,aa9];constructor
 .rintro(⟨i,hi,hp,rfl⟩|⟨i,hi,hp,rfl⟩);.rw[cg]at hp;show⟨i,hi,hp.2,rfl⟩
  .rw[h i hi]at hp;show⟨i,hi,?_,rfl⟩;cases e:g i;.rfl
   .rw[e]at hp;cases hp
 .rintro⟨i,hi,hp,rfl⟩;cases W:q i;.show .inr ⟨i,hi,by erw[h i hi,W,yd,hp],rfl⟩
  .show .inl ⟨i,hi,by erw[W,hp],rfl⟩
def art(hx:bw s x=aa T)(hi:i<T.count)(k):
 VN s (cw s (BH T i)) x i (T.row i) k (a8 s k)=a8 (cw s (BH T i)) k:=by
 let⟨W,hfo⟩:=fp (T':=BH T i) hx (find_name (T:=T) hx);generalize hs2:cw s (BH T i)=s2 at*;by_cases hne:∀y,y∈k.tables->y≠x;.rw[aen (s:=s) λy hy=>hfo (hne y hy)];let hkt:(k.table==x)=false:=i8.mpr (hne _ (by cases k<;>simp[my,i3]));delta VN;rw[hfo (hne _ (by cases k<;>simp[my,i3]))];cases bw s k.table with
  |none=>rfl
  |some t=>
   rwa[hkt,JO,ao gy];cases k with
   |refers t' cs u ds=>let hu:(u==x)=false:=i8.mpr (hne _ (by simp[my]));rwa[hu,ao gy];split<;>rfl
   |_=>rfl
 by_cases hT:k.table=x;.delta VN;rw[hT,hx,W];clear hne;cases k with
  |each t c=>obtain rfl:t=x:=hT;rwa[gp,jk,aah hx,aah W,ug hi];show ah4 hi λj hj=>by rw[sd];rfl
  |any t c=>
   obtain rfl:t=x:=hT;rwa[gp,oq,abd hx,abd W];rw[arp hi];cases hq:c.holds T.cols (T.row i) (T.row i)
   .cases hz:((BH T i).rows.any λr'=>c.holds T.cols r' r');.let hz':((BH T i).rows.any λr'=>c.holds (BH T i).cols r' r')=false:=hz;simp[hz']
    .rfl
   .simp
  |pairs t c|key t c|fixes t c d=>obtain rfl:t=x:=hT;rwa[gp,jk,aai hx,aai W,aak hx,aak W,aal hx,aal W,ug hi];show a97 hi λj k hj hk=>by rw[sd,sd];rfl
  |next t c=>
   obtain rfl:t=x:=hT;rwa[gp,oq,jk,aaj hx,aaj W,ug hi];rw[a98 (n:=T.count) (i:=i) (p:=λi=>!(c.holds T.cols (T.row i) (T.row (i+1)))) hi (λj hj hji=>by rw[sd,sd,show up i (j+1)=up i j+1 by delta up;split<;>split<;>lia];rfl)];by_cases h0:0<i/\i<T.count-1;.rw[show i-1+1=i by lia]
   .rwa[h0,bjx,JO]
  |refers t cs u ds=>
   obtain rfl:t=x:=hT;by_cases hu:u=t;.subst hu;rwa[gp,jk,W,me hx hx,me W W,ug hi];erw[ah4 hi λj hj=>rfl,ars λj hj=>by erw[sd,arq hi cs ds _]]
   .let hub:(u==t)=false:=i8.mpr hu;cases hv:bw s u with
    |none=>rwa[hfo hu,hv,gp,jk,acn hx hv,acn W ((hfo hu).trans hv)];rfl
    |some V=>rwa[hfo hu,hv,hub,gp,jk,me hx hv,me W ((hfo hu).trans hv),ug hi,ao gy];show ah4 hi λj hj=>by rw[sd];rfl
  |groups t cs a lo hi'=>
   obtain rfl:t=x:=hT;rwa[gp,jk,abe hx,abe W,ug hi];let hg:((e6 T.count).filter λj=>qt T cs (T.row j) (T.row i))=cls (keyOf T cs) T.count i:=by delta cls;show J3 λj hj=>?_;unfold keyOf qt;rw[oj,qh,ym]
   rw[hg];let hmem:=λb:NL=>a_c (b:=b) (key:=keyOf T cs) (key2:=keyOf (BH T i) cs) (n:=T.count) hi (λj hj=>by delta keyOf;rw[sd];rfl);let hfl:((B0 (keyOf T cs) T.count).filter λg=>!(lb T a lo hi' g)).filter (λb=>b !=cls (keyOf T cs) T.count i)=((B0 (keyOf T cs) T.count).filter λg=>!(lb T a lo hi' g)).filter (λb=>!b.contains i):=by
    show J3 λb hb=>?_;let hb1:=(iu.mp hb).1;obtain e|e:=a_d hb1 hi;.subst e;let:i∈cls (keyOf T cs) T.count i:=qa.mpr ⟨hi,rfl⟩;simp[this]
    .let h2:b≠cls (keyOf T cs) T.count i:=λq=>e (by erw[q,qa.mpr ⟨hi,rfl⟩]);simp[e,h2]
   rw[hfl];let hs:Sd (jm i ((B0 (keyOf T cs) T.count).filter λg=>!(lb T a lo hi' g))):=acm (kg _ (abc _ _));let hq:∀b,b∈jm i ((B0 (keyOf T cs) T.count).filter λg=>!(lb T a lo hi' g))↔((∃c,c∈B0 (keyOf T cs) T.count/\c≠cls (keyOf T cs) T.count i/\i∉c/\b=c.map (iw i))/\(!(lb (BH T i) a lo hi' b))=ae):=by
    intro b;rw[ack];constructor;.rintro⟨c,hc,hni,rfl⟩;let⟨h1,h2⟩:=iu.mp hc;show⟨(wq c h1 (λe=>hni (by erw[e,qa.mpr ⟨hi,rfl⟩])) hni rfl),?_⟩;delta lb at h2⊢;erw[ark hni,h2]
    .rintro⟨⟨c,h1,h2,h3,rfl⟩,h4⟩;show et c (iu.mpr ⟨h1,?_⟩) h3 rfl;delta lb at h4⊢;rw[ark h3]at h4;show h4
   change(if _ then jm i _ else yu _ (jm i _))=_;split
   .ext hc;show p9 hs (kg _ (abc _ _)) λb=>?_;rw[hq,iu,hmem];constructor;.rintro⟨h1,h2⟩;show⟨.inr h1,h2⟩
    .rintro⟨⟨rfl,hne'⟩|h1,h2⟩
     .rw[jb]at hc;obtain hc|hc:=hc;.show cj (aw2.mp hc) hne'
      .rw[hc]at h2;cases h2
     .show⟨h1,h2⟩
   .ext hc;rw[jb,sk]at hc;show p9 (ach hs) (kg _ (abc _ _)) λb=>?_;rw[aae,hq,iu,hmem];constructor
    .rintro(rfl|⟨h1,h2⟩);.show⟨.inl ⟨rfl,λe=>hc.1 (aw2.mpr e)⟩,by simpa using hc.2⟩
     .show⟨.inr h1,h2⟩
    .rintro⟨⟨rfl,_⟩|h1,h2⟩;.show .inl rfl
     .show .inr ⟨h1,h2⟩
 .cases k with
  |refers t cs u ds=>
   let ht:t≠x:=hT;let hu:u=x:=by
    show UG λq=>hne λy hy=>?_;rwa[my,df,qo,VC]at hy;obtain rfl|rfl:=hy;.show ht
    .show q
   subst hu;let htb:(t==u)=false:=i8.mpr ht;delta VN;rw[i3];cases hv:bw s t with
   |none=>rwa[aco (s:=s) (k:=.refers t cs u ds) hv,aco (s:=s2) (k:=.refers t cs u ds) ((hfo ht).trans hv)]
   |some V=>rwa[hfo ht,hv,W,htb,ao gy,gp,jk,me hv hx,me ((hfo ht).trans hv) W];show ars λj hj=>arq hi cs ds _
  |_=>show cj (λy hy=>by rwa[my,i3,fq]at hy;erw[hy,hT]) hne
end MM
namespace CK
open PySem PySem.Spec PyProof.Rows L2 DL
def BX:ot->D
 |.num n=>.int n
 |.word w=>.str (S w)
 |.gone=>.tup []
def AY(r:Q0):D:=.tup (r.map BX)
def MA:ai->ai->ab D
 |_,0=>[]
 |i,n+1=>.int i::MA (i+1) n
def C4(cs:ab mw):D:=.d8 (cs.map λc=>.inr (S c.name)) (MA 0 cs.length)
def ah8(x):∀(cs:ab mw)(i),CT (cs.map λc=>.inr (S c.name)) (MA i cs.length) (.inr (S x))=((cs.findIdx? λc=>c.name==x).map λj=>D.int (i+j:ai))
 |[],_=>rfl
 |c::cs,i=>by
  rwa[b9,d6,aw0];unfold MA CT;let e:(xu (S c.name):Key)=.inr (S x)↔(c.name==x)=true:=by grind[vq]
  by_cases h:(c.name==x)=ae;.walk
  .rw[ao (λq=>h (e.mp q)),ao h,ah8 x cs _,bjy];congr 1;grind
def ah9(cs)(x):AB (C4 cs) (.str (S x))=(cs.findIdx? λc=>c.name==x).map λj=>D.int (j:ai):=by change(aa _).bind (CT _ _)=_;simp[ah8]
def aru(r)(i:ai):AB (AY r) (.int i)=(r[i]?).map BX:=by change BQ _ i=_;rw[p8,i9]
def aia(hr:r.length=cs.length)(W:(cs.findIdx? λc=>c.name==x).isSome=ae):
 AG AB (aa (AY r)) (AG AB (aa (C4 cs)) (aa (.str (S x))))=aa (BX (qv cs r x)):=by
 rw[dm,ah9];cases h:cs.findIdx? λc=>c.name==x with
 |none=>walk
 |some j=>
  let hj:j<cs.length:=by let⟨q,_⟩:=aj1.mp h;omega
  grind[j4,dm,aru,qv]
def ACG(x y:ot):ot:=match x,y with
 |.num m,.num n=>.num (m+n)
 |_,_=>.gone
def ACH(x y:ot):ot:=match x,y with
 |.num m,.num n=>if m<n then .gone else .num (m-n)
 |_,_=>.gone
def p_add(x y):OI [.str "add",BX x,BX y]=aa (BX (ACG x y)):=by cases x<;>cases y<;>rfl
def a_j(x y):OI [.str "sub",BX x,BX y]=aa (BX (ACH x y)):=by
 cases x with
 |num m=>
  cases y with
  |num n=>
   change AK ((AI (AA .GtE (.int m) (.int n)) _ _).map Out.ret)=_;rw[d5,aeh,cx];change _=aa (BX (if m<n then .gone else .num (m-n)));by_cases h:m<n;.rw[ao yL,aj h];rfl
   .rw[aj (by simp;lia),ao h];change aa (D.int _)=aa (.int _);lia
  |_=>rfl
 |_=>rfl
def eval_add(cs)(a b)(x y):(bnq x y).eval cs a b=ACG (x.eval cs a b) (y.eval cs a b):=by rfl
def a_k(cs)(a b)(x y):(bnr x y).eval cs a b=ACH (x.eval cs a b) (y.eval cs a b):=by rfl
def NmE(two:a4)(t:Tr):ajt->Prop
 |.num n=>t=.num n
 |.word x=>t=.list [.word wj,.word x]
 |.col s x=>t=.list [.word (if two then(if s then yp else yo)else yq),.word x]/\(s=ae->two=ae)
 |.add x y=>∃a b,t=.list [.word u5,a,b]/\fb two a=aa x/\fb two b=aa y
 |.sub x y=>∃a b,t=.list [.word u6,a,b]/\fb two a=aa x/\fb two b=aa y
def qc{two}(h:fb two t=aa e):NmE two t e:=by
 obtain _|_|l:=t<;>delta fb at h;.cases h;rfl
 .trivial
 obtain _|⟨_|w|_,_|⟨a,_|⟨b,_|_⟩⟩⟩:=l<;>w_top h
 .cases a<;>w_top h
  dsimp at h;k_lt h;.ext c;rw[eq_of_beq c];cases h;rfl
  cases two
  .rw[ao gy]at h;k_lt h<;>w_top h
   ext c;rw[eq_of_beq c];cases h;show⟨rfl,nofun⟩
  rw[aj rfl]at h;k_lt h;.ext c;rw[eq_of_beq c];cases h;show⟨rfl,nofun⟩
  k_lt h<;>w_top h
  ext c;rw[eq_of_beq c];cases h;show⟨rfl,λζ=>rfl⟩
 .cases a;all_goals
   dsimp at h;k_lt h;.ext c;rw[eq_of_beq c];let⟨x,hx,h⟩:=ay h;let⟨y,hy,rfl⟩:=bo h;show dq _ b rfl hx hy
   k_lt h;.ext c;rw[eq_of_beq c];let⟨x,hx,h⟩:=ay h;let⟨y,hy,rfl⟩:=bo h;show dq _ b rfl hx hy
   .trivial
 .cases a<;>show nn h
def GU(cs:ab mw)(l:ab Bytes):Prop:=∀x,x∈l->(cs.findIdx? λc=>c.name==x).isSome=ae
def aeo{F f:Fd}{A B}{w p q z:D}(j:f A=aa p)(W:f B=aa q)(h:F [w,p,q]=aa z):AK ((f A).bind λl=>(((AF (aa w) (AF (aa l) (AF (f B) (aa [])))).bind F).map Out.ret))=aa z:=by rw[j,W];change AK ((F [w,p,q]).map Out.ret)=_;rw[d5,h]
def acq{two}(ha:a.length=cs.length)(hb:b.length=cs.length):∀(n)(t)(e),BE t<n->fb two t=aa e->GU cs e.cols->
 JD n [AE t,C4 cs,AY a,AY b]=aa (BX (e.eval cs a b)):=by
 intro n;induction n with
 |zero=>intro _ _ h _ _;lia
 |succ n I=>
  intro t e h he hc;obtain m|x|⟨s,x⟩|⟨x,y⟩|⟨x,y⟩:=e<;>first|show b7 (qc he) λu v j q W=>?_;subst j|let⟨rfl,hs⟩:=qc he|subst qc he
  .rw[aw3];rfl
  .rw[aw3];rfl
  .let hq:=hc x (by erw[tf,bjd _]);rwa[aw3];clear hc he;cases s with
   |true=>rw[hs rfl];change AK ((AG AB (aa (AY b)) (AG AB (aa (C4 cs)) (aa (.str (S x))))).map Out.ret)=_;rw[d5,aia hb hq];rfl
   |false=>cases two<;>(change AK ((AG AB (aa (AY a)) (AG AB (aa (C4 cs)) (aa (.str (S x))))).map Out.ret)=_;rw[d5,aia ha hq];rfl)
  .rw[tf]at hc;erw[eval_add,(aeo (I u x (dn h yS) q λz hz=>hc z (JL _ hz)) (I v y (dn h yS) W λz hz=>hc z (mn _ hz)) (p_add _ _):)]
  .rw[tf]at hc;erw[a_k,(aeo (I u x (dn h yS) q λz hz=>hc z (JL _ hz)) (I v y (dn h yS) W λz hz=>hc z (mn _ hz)) (a_j _ _):)]
def aib(x y):C9 (BX x) (BX y)=aa (x==y):=by
 cases x with
 |num m=>
  cases y with
  |num n=>change aa _=_;congr 1;grind
  |word w=>rfl
  |gone=>rfl
 |word w=>
  cases y with
  |num n=>rfl
  |word v=>change aa _=_;rw[aed];congr 1;lia
  |gone=>rfl
 |gone=>cases y<;>rfl
def aic(x y):AA .Eq (BX x) (BX y)=aa (.bl (x==y)):=by change(C9 _ _).map D.bl=_;simp[aib]
def arv(x y):AA .NotEq (BX x) (BX y)=aa (.bl (!(x==y))):=by change(C9 _ _).map _=_;simp[aib]
def a_l(x y):OJ [.str "less",BX x,BX y]=aa (.bl (match x,y with|.num m,.num n=>decide (m<n)|_,_=>ag)):=by
 cases x with
 |num m=>
  cases y with
  |num n=>change aa _=_;simp
  |_=>rfl
 |_=>rfl
def a_m(x y):OJ [.str "same",BX x,BX y]=aa (.bl (x !=.gone&&x==y)):=by change AK ((A0 (AA .NotEq _ (BX .gone)) _).map Out.ret)=_;grind[d5,arv,aic,md]
def ACI:Stmt->ab Stmt
 |.If _ a _ _=>a
 |_=>[]
def HK:Stmt->Expr
 |.For t _ _ _ _=>t
 |_=>.Name "_" ⟨0,0,0,0⟩
def YK:Stmt->ab Stmt
 |.For _ _ b _ _=>b
 |_=>[]
def D9(l:ab Stmt)(i:ai):Stmt:=l.getD i (.Pass ⟨0,0,0,0⟩)
def D3(Γ:DL.Ctx)(sc:cz)(n:ai)(st:Stmt):D->ab Sl->ah Out:=λd ξ=>(IX Γ.N sc (HK st) d ξ).bind λξ2=>BP Γ sc n ξ2 (YK st) λξ3=>aa (.next ξ3)
section
variable(C E B:ab D->ah D)
noncomputable def hG:DL.Ctx:=Cq.c (XZ C E B)
def T5:D->ab Sl->ah Out:=D3 (hG C E B) (AO (top 9)) 20 (D9 (ACI (D9 (BC (top 9)) 2)) 0)
def YL(ξ:ab Sl):ah Out:=BP (hG C E B) (AO (top 9)) 20 ξ ((ACI (D9 (BC (top 9)) 2)).drop 1) (λξ=>BP (hG C E B) (AO (top 9)) 21 ξ ((BC (top 9)).drop 3) (λj=>af))
def arw(t p f s h d)(X):T5 C E B d [.val t,.val p,.val f,.val s,.val h,.no,X]=
 AI (AG (AA .Eq) (B [d,p,f,s]) (AA .Eq h (.str "or"))) ((AA .Eq h (.str "or")).map Out.ret) (aa (.next [.val t,.val p,.val f,.val s,.val h,.no,.val d])):=by rfl
def a_n(t p f s):AA7 C E B t p f s=(AB t (.int 0)).bind λh=>
 AI (AA .Eq h (.str "not")) ((BA ((AF (AB t (.int 1)) (aa [p,f,s])).bind B)).map Out.ret)
  (AI (A7 (AA .Eq h (.str "and")) (AA .Eq h (.str "or")))
    (((BZ (aa t) (aa (aa (.int 1))) af).bind BM).bind λj=>BO (AU (T5 C E B) j [.val t,.val p,.val f,.val s,.val h,.no,.no]) (YL C E B))
    (((AF (AB t (.int 1)) (aa [p,f,s])).bind C).bind λl=>
     AI (AA .Eq h (.str "gone")) ((AA .Eq l (.tup [])).map Out.ret)
      (((AF (aa h) (AF (aa l) (AF ((AF (AB t (.int 2)) (aa [p,f,s])).bind C) (aa [])))).bind E).map Out.ret))):=by rfl
end
def NmD(A:a4)(t:Tr):aw4->Prop
 |.less x y=>∃a b,t=.list [.word bje,a,b]/\fb A a=aa x/\fb A b=aa y
 |.same x y=>∃a b,t=.list [.word bjf,a,b]/\fb A a=aa x/\fb A b=aa y
 |.gone x=>∃a,t=.list [.word bjg,a]/\fb A a=aa x
 |.and_ l=>∃r,sv A r=aa l/\t=.list (.word bji::r)
 |.or_ l=>∃r,sv A r=aa l/\t=.list (.word bjj::r)
 |.not_ x=>∃a,t=.list [.word bjh,a]/\g0 A a=aa x
def qd{A}(h:g0 A t=aa c):NmD A t c:=by
 delta g0 at h;obtain _|_|_|⟨_|w|_,r⟩:=t<;>w_top h
 dsimp at h;k_lt h
 .ext c;rw[eq_of_beq c];obtain _|⟨a,_|⟨b,_|_⟩⟩:=r<;>w_top h
  let⟨x,hx,h⟩:=ay h;let⟨y,hy,rfl⟩:=bo h;show dq a b rfl hx hy
 k_lt h
 .ext c;rw[eq_of_beq c];obtain _|⟨a,_|⟨b,_|_⟩⟩:=r<;>w_top h
  let⟨x,hx,h⟩:=ay h;let⟨y,hy,rfl⟩:=bo h;show dq a b rfl hx hy
 k_lt h
 .ext c;rw[eq_of_beq c];obtain _|⟨a,_|_⟩:=r<;>w_top h
  let⟨x,hx,rfl⟩:=bo h;show ap a rfl hx
 k_lt h;.ext c;rw[eq_of_beq c];let⟨x,hx,rfl⟩:=bo h;show ap r hx rfl
 k_lt h;.ext c;rw[eq_of_beq c];let⟨x,hx,rfl⟩:=bo h;show ap r hx rfl
 k_lt h<;>w_top h
 ext c;rw[eq_of_beq c];obtain _|⟨a,_|_⟩:=r<;>w_top h
 let⟨x,hx,rfl⟩:=bo h;show ap a rfl hx
section
variable{C E B:ab D->ah D}{A:a4}{cs:ab mw}{a b:Q0}{t:D}
def a_o:∀(r:ab Tr)(l)(X),sv A r=aa l->(∀u c,u∈r->c∈l->g0 A u=aa c->B [AE u,C4 cs,AY a,AY b]=aa (.bl (c.holds cs a b)))->
 BO (AU (T5 C E B) (AV r) [.val t,.val (C4 cs),.val (AY a),.val (AY b),.val (.str "or"),.no,X]) (YL C E B)=aa (.ret (.bl (bjz cs a b l))):=by
 intro r;induction r with
 |nil=>intro l X h _;cases h;rfl
 |cons u r I=>
  intro l X h hg;let⟨c,hc,h⟩:=ay h;let⟨q,hl,rfl⟩:=bo h;rw[AV,AU,arw,hg u c (d7 ..) (d7 ..) hc,bjz];cases c.holds cs a b with
  |true=>rfl
  |false=>rw[biy,<-(λY=>I q Y hl λu' W hu j=>hg u' W (dj _ hu) (dj _ j)) _];rfl
def a_p:∀(r:ab Tr)(l)(X),sv A r=aa l->(∀u c,u∈r->c∈l->g0 A u=aa c->B [AE u,C4 cs,AY a,AY b]=aa (.bl (c.holds cs a b)))->
 BO (AU (T5 C E B) (AV r) [.val t,.val (C4 cs),.val (AY a),.val (AY b),.val (.str "and"),.no,X]) (YL C E B)=aa (.ret (.bl (bj0 cs a b l))):=by
 intro r;induction r with
 |nil=>intro l X h _;cases h;rfl
 |cons u r I=>
  intro l X h hg;let⟨c,hc,h⟩:=ay h;let⟨q,hl,rfl⟩:=bo h;rw[AV,AU,arw,hg u c (d7 ..) (d7 ..) hc,bj0];cases c.holds cs a b with
  |false=>rfl
  |true=>rw[oq,<-(λY=>I q Y hl λu' W hu j=>hg u' W (dj _ hu) (dj _ j)) _];rfl
end
def aid:∀{l}{c},c∈l->GU cs (VO l)->GU cs c.cols
 |x::l,c,hc,h=>by
  obtain rfl|hc:=df.mp hc;.show λz hz=>h z (JL _ hz)
  .show aid hc λz hz=>h z (mn _ hz)
def arx{A}(ha:a.length=cs.length)(hb:b.length=cs.length):∀(n)(t)(c),BE t<n->n<=42->g0 A t=aa c->GU cs c.cols->
 FO n [AE t,C4 cs,AY a,AY b]=aa (.bl (c.holds cs a b)):=by
 intro n;induction n with
 |zero=>intro _ _ h _ _ _;lia
 |succ n I=>
  intro t c h h42 he hc;change AK _=_;rw[a_n];obtain⟨x,y⟩|⟨x,y⟩|x|l|l|x:=c<;>first|(let⟨r,hl,z⟩:=qd he;subst z)|let⟨u,rfl,hx⟩:=qd he|show b7 (qd he) λu v j hx hy=>?_;subst j
  .rw[mz]at hc;show VP (aeo (acq ha hb 42 u x (by let:=dn h (u:=u) yS;lia) hx λz hz=>hc z (JL _ hz)) (acq ha hb 42 v y (by let:=dn h (u:=v) yS;lia) hy λz hz=>hc z (mn _ hz)) (a_l _ _):) ?_;rw[Q1];cases x.eval cs a b<;>cases y.eval cs a b<;>rfl
  .rw[mz]at hc;show VP (aeo (acq ha hb 42 u x (by let:=dn h (u:=u) yS;lia) hx λz hz=>hc z (JL _ hz)) (acq ha hb 42 v y (by let:=dn h (u:=v) yS;lia) hy λz hz=>hc z (mn _ hz)) (a_m _ _):) ?_;rw[Q1]
  .rw[mz]at hc;let i1:=acq ha hb 42 u x (by let:=dn h (u:=u) yS;lia) hx hc;change AK ((JD 42 [AE u,C4 cs,AY a,AY b]).bind λl=>((AA .Eq l (BX .gone)).map Out.ret))=_;rw[i1];change AK ((AA .Eq (BX (x.eval cs a b)) (BX .gone)).map Out.ret)=_;rw[d5,aic,Q1]
  .rw[mz]at hc;erw[Q1,e_h,e_s,(eh AK (a_p r l .no hl λu x hu q W=>I u x (dn h (dj _ hu)) yL W (aid q hc)):)]
  .rw[mz]at hc;erw[Q1,e_h,e_s,(eh AK (a_o r l .no hl λu x hu q W=>I u x (dn h (dj _ hu)) yL W (aid q hc)):)]
  .rw[mz]at hc;change AK ((BA (FO n [AE u,C4 cs,AY a,AY b])).map Out.ret)=_;rw[I u x (dn h yS) yL hx hc,Q1];rfl
def BK(l:ab Bytes):ab D:=l.map λx=>.str (S x)
section
variable(g:ab D->ah D)
noncomputable def nG:DL.Ctx:=Cq.c (XY g)
def MB:D->ab Sl->ah Out:=D3 (nG g) (AO (top 5)) 20 (D9 (BC (top 5)) 3)
def JI(ξ:ab Sl):ah Out:=BP (nG g) (AO (top 5)) 20 ξ ((BC (top 5)).drop 4) (λj=>af)
def a_q(t d)(l)(X):MB g d [.val t,.own l,X]=(F5 (g [d])).bind λj=>if l.length+j.length<=aw then aa (.next [.val t,.own (l++j),.val d])else none:=by rfl
def a_r(t)(l)(X):JI g [.val t,.own l,X]=aa (.ret (.lst l)):=by rfl
def ary(t):SY g t=
 AI (A7 (BJ [t,.ty "int"]) (AG (AA .Eq) (AB t (.int 0)) (aa (.str "word")))) (aa (.ret (.lst [])))
  (AI (A7 (AG (AA .In) (AB t (.int 0)) (aa (.tup [.str "col"]))) (AG (AA .In) (AB t (.int 0)) (aa (.tup [.str "one",.str "two"])))) (((AF (AB t (.int 1)) (aa [])).map D.lst).map Out.ret)
    (((BZ (aa t) (aa (aa (.int 1))) af).bind BM).bind λj=>BO (AU (MB g) j [.val t,.own [],.no]) (JI g))):=by rfl
end
def arz{j}:∀(r)(acc)(X),(∀u,u∈r->g [AE u]=aa (.lst (BK (j u))))->acc.length+(r.flatMap j).length<=aw->
 BO (AU (MB g) (AV r) [.val t,.own acc,X]) (JI g)=aa (.ret (.lst (acc++BK (r.flatMap j))))
 |[],acc,X,_,_=>by change JI g _=_;rw[a_r];change _=aa (Out.ret (D.lst (acc++[])));rw[ip]
 |u::r,acc,X,hg,hl=>by
  rw[tj,e9]at hl;let e:(BK (j u)).length=(j u).length:=by delta BK;simp
  rw[AV,AU,a_q,hg u (d7 ..)];change BO (match(if acc.length+(BK (j u)).length<=aw then aa (Out.next [.val t,.own _,.val (AE u)])else af)with|some (.next ξ')=>AU (MB g) (AV r) ξ'|some (.ret q)=>aa (.ret q)|none=>af) (JI g)=_;rw[aj (by rw[e];lia)];rw[(arz (t:=t) r _ _ (λv W=>hg v (dj _ W)) (by grind))];delta BK;simp
def HM(two:a4)(z:Tr):ab Bytes:=((fb two z).map tf).getD []
def n_l(c:Tr->ab Bytes){r}{X}{l}(hg:∀u,u∈r->g [AE u]=aa (.lst (BK (c u))))(e:r.flatMap c=l)(j:l.length<=aw):AK (BO (AU (MB g) (AV r) [.val t,.own [],X]) (JI g))=aa (.lst (BK l)):=by subst e;rw[arz r [] X hg (by rw[avv];lia)];rfl
def ar0(c:Tr->ab Bytes){u v}{X}{a b}(i1:g [AE u]=aa (.lst (BK a)))(i2:g [AE v]=aa (.lst (BK b)))(j:c u=a)(q:c v=b)(W:(a++b).length<=aw):AK (BO (AU (MB g) (AV [u,v]) [.val t,.own [],X]) (JI g))=aa (.lst (BK (a++b))):=by subst j q;show n_l c yA yS W
def aie{two}:∀(n)(t)(e),BE t<n->fb two t=aa e->e.cols.length<=aw->GO n [AE t]=aa (.lst (BK e.cols)):=by
 intro n;induction n with
 |zero=>intro _ _ h _ _;lia
 |succ n I=>
  intro t e h he W;change AK (SY (GO n) (AE t))=_;rw[ary];obtain m|x|⟨s,x⟩|⟨x,y⟩|⟨x,y⟩:=e<;>first|show b7 (qc he) λu v j hx hy=>?_;subst j|let⟨rfl,W⟩:=qc he|subst qc he
  .rwa[tf];rfl
  .rwa[tf];rfl
  .rwa[tf];clear he W;cases two<;>cases s<;>rfl
  iterate 2·rw[tf]at W⊢;let q:=W;rw[e9]at q;show ar0 (HM two) (I u x (dn h yS) hx yL) (I v y (dn h yS) hy yL) (by rw[HM,hx];rfl) (by rw[HM,hy];rfl) W
def GV(two:a4)(z:Tr):ab Bytes:=((g0 two z).map mz).getD []
def ar1{two}:∀{r}{l},sv two r=aa l->VO l=r.flatMap (GV two)
 |[],l,h=>by cases h;rfl
 |u::r,l,h=>by let⟨c,hc,h⟩:=ay h;let⟨j,hl,rfl⟩:=bo h;rw[VO,tj,<-ar1 hl];simp_all[GV]
def ar2{two}:∀{r}{l},sv two r=aa l->∀u,u∈r->∃c,g0 two u=aa c
 |u::r,l,h,v,j=>by
  let⟨c,hc,h⟩:=ay h;let⟨q,hl,rfl⟩:=bo h;obtain rfl|j:=df.mp j;.grind
  .show ar2 hl v j
def ar3{f:Tr->ab Bytes}:∀{r:ab Tr}{u},u∈r->(f u).length<=(r.flatMap f).length
 |v::r,u,h=>by
  rw[tj,e9];obtain rfl|h:=df.mp h;.lia
  .let:=ar3 (f:=f) h;lia
def a_s{two}:∀(n)(t)(c),BE t<n->n<=42->g0 two t=aa c->c.cols.length<=aw->GO n [AE t]=aa (.lst (BK c.cols)):=by
 intro n;induction n with
 |zero=>intro _ _ h _ _ _;lia
 |succ n I=>
  intro t c h h42 he j;change AK (SY (GO n) (AE t))=_;rw[ary];obtain⟨x,y⟩|⟨x,y⟩|x|l|l|x:=c<;>first|(show au (qd he) λr hl z=>?_;subst z)|let⟨u,rfl,W⟩:=qd he|show b7 (qd he) λu v zq5_1 W hy=>?_;subst zq5_1
  iterate 2·rw[mz]at j⊢;let q:=j;rw[e9]at q;show ar0 (HM two) (aie n u x (dn h yS) W yL) (aie n v y (dn h yS) hy yL) (by rw[HM,W];rfl) (by rw[HM,hy];rfl) j
  .rw[mz]at j⊢;let q:=aie n u x (dn h yS) W j;show n_l (r:=[u]) (HM two) (by simp_all[HM]) (by simp[HM,W]) j
  iterate 2
   .rw[mz,ar1 hl]at j⊢;erw[e_h,e_s,n_l (r:=r) (GV two) (λz hz=>?_) rfl j];let⟨x,W⟩:=ar2 hl z hz;let hq:(GV two z).length<=(r.flatMap (GV two)).length:=ar3 hz;let ez:GV two z=x.cols:=by rw[GV,W];rfl
    rw[ez]at hq⊢;show I z x (dn h (dj _ hz)) yL W yL
  .rw[mz]at j⊢;let q:=I u x (dn h yS) yL W j;show n_l (r:=[u]) (GV two) (by simp_all[GV]) (by simp[GV,W]) j
def a_t(w):bj1 (S w)=true:=by unfold bj1 S;rwa[Array.all_eq_true_iff_forall_mem,List.mem_toArray,gx];rintro x⟨b,_,rfl⟩;let:=b.toNat_lt;lia
mutual
theorem ar4:∀t:Tr,(toPy (AE t)).canLay0=ae
 |.num n=>by simp[AE,toPy,qm]
 |.word w=>by simp[AE,toPy,qm,a_t]
 |.list l=>by rwa[AE,toPy,qm];show ar5 l
theorem ar5:∀l:ab Tr,QS (DF (AV l))=ae
 |[]=>by simp[AV,DF,QS]
 |t::l=>by rwa[AV,DF,QS,ar4 t,ar5 l,Bool.and_self]
end
mutual
theorem ar6:∀t:Tr,(toPy (AE t)).depth=BE t
 |.num n=>by simp[AE,toPy,aw5,BE]
 |.word w=>by simp[AE,toPy,aw5,BE]
 |.list l=>by rwa[AE,toPy,aw5,BE,ar7 l]
theorem ar7:∀l:ab Tr,aw6 (DF (AV l))=CY l
 |[]=>by simp[AV,DF,aw6,CY]
 |t::l=>by rwa[AV,DF,aw6,CY,ar6 t,ar7 l]
end
def a_u(h:BE t<=64):wc (toPy (AE t))=true:=by grind[wc,ar4,ar6]
mutual
theorem ar8:∀a b:Tr,so (toPy (AE a)) (toPy (AE b))=ae↔a=b
 |.num n,.num m=>by rwa[AE,toPy,so,qh,Int.natCast_inj,bns]
 |.num n,.word m=>by simp[AE,toPy,so]
 |.num n,.list m=>by simp[AE,toPy,so]
 |.word n,.num m=>by simp[AE,toPy,so]
 |.word n,.word m=>by rwa[AE,toPy,so,qh,bnt];show⟨vq,λh=>by rw[h]⟩
 |.word n,.list m=>by simp[AE,toPy,so]
 |.list n,.num m=>by simp[AE,toPy,so]
 |.list n,.word m=>by simp[AE,toPy,so]
 |.list n,.list m=>by rwa[AE,toPy,so,bnu];show ar9 n m
theorem ar9:∀a b:ab Tr,VQ (DF (AV a)) (DF (AV b))=ae↔a=b
 |[],[]=>by simp[AV,DF,VQ]
 |[],_::_=>by simp[AV,DF,VQ]
 |_::_,[]=>by simp[AV,DF,VQ]
 |x::l,y::m=>by rwa[AV,DF,VQ,cg,ar8 x y,ar9 l m,bjb]
end
def a_v(ha:BE a<=64)(j:BE b<=64):∃r,G1 (AE a) (AE b)=aa r/\(r=ae↔a=b):=by simp_all[ar8,G1,a_u]
def asa(ha:BE a<=64)(j:BE b<=64):∃r,C9 (AE a) (AE b)=aa r/\(r=ae↔a=b):=by
 cases a with
 |num n=>
  cases b with
  |num m=>show⟨_,rfl,by grind⟩
  |word m=>show⟨_,rfl,yS⟩
  |list m=>show⟨_,rfl,yS⟩
 |word n=>
  cases b with
  |num m=>show⟨_,rfl,yS⟩
  |word m=>show⟨_,rfl,by grind[vq]⟩
  |list m=>show⟨_,rfl,yS⟩
 |list l=>
  cases b with
  |num m=>show⟨_,rfl,by simp⟩
  |word m=>show⟨_,rfl,yS⟩
  |list m=>
   cases m with
   |nil=>cases l<;>show⟨_,rfl,by simp[AV]⟩
   |cons y m=>
    cases l with
    |nil=>show⟨_,rfl,yS⟩
    |cons x l=>show a_v ha j
def FV:ot->Tr
 |.num n=>.num n
 |.word w=>.word w
 |.gone=>.list []
def a_w(c):AE (FV c)=BX c:=by cases c<;>rfl
def a_x(h:FV a=FV b):a=b:=by cases a<;>cases b<;>first|rfl|(injection h with h;rw[h])|trivial
def asb:∀{a b:ab ot},a.map FV=b.map FV->a=b
 |[],[],_=>rfl
 |[],_::_,h=>yT
 |_::_,[],h=>yT
 |x::a,y::b,h=>by injection h with h1 h2;rw[a_x h1,asb h2]
def asd(r):AY r=AE (.list (r.map FV)):=by change D.tup _=D.tup _;simp[nv,a_w]
def a_y(c):BE (FV c)<=1:=by cases c<;>simp[FV,BE,CY]
def ase:∀r:ab ot,CY (r.map FV)<=1
 |[]=>yD
 |c::r=>by rw[b9];delta CY;let:=a_y c;let:=ase r;lia
def asf(r:Q0):BE (.list (r.map FV))<=2:=by change CY _+1<=2;simp[ase]
def age(a b):C9 (AY a) (AY b)=aa (a==b):=by erw[asd,asd,au (asa (a:=.list (a.map FV)) (b:=.list (b.map FV)) (by grind[asf]) (by grind[asf])) λr hr h=>?_];rw[hr];congr 1;grind[asb]
def ash(l):(ib lc l).isSome=l.all CN:=by
 induction l with
 |nil=>rfl
 |cons t l j=>simp[ib,<-j];cases t<;>cases ib lc l<;>rfl
def se:∀{l}{j},ib lc l=aa j->l=j.map er
 |[],j,h=>by cases h;rfl
 |t::l,j,h=>by
  let⟨w,q,h⟩:=ay h;let⟨s,W,rfl⟩:=bo h;cases t with
  |word x=>cases q;rw[b9,<-se W]
  |_=>trivial
def DB:Tr->a4
 |.list l=>l.all CN
 |_=>ag
def abg(t):FP [AE t]=aa (.bl (DB t)):=by
 change AK _=_;delta AA8;rw[d5];cases t with
 |num n=>rfl
 |word w=>rfl
 |list l=>change((AF ((A6 _ _).map D.lst) _).bind B3)=_;erw[nv,comp_map λt j=>by rw[xb];rfl,all_map CN l]
end CK
namespace CK
open PySem PySem.Spec PyProof.Rows L2 DL
def a_z(a b):(qw (.list [a,b])).isSome=(BB Q2 a&&CN b):=by
 cases a with
 |word w=>
  cases b with
  |word c=>change(if(w==Q2)=ae then _ else af).isSome=((w==Q2)&&ae);cases w==Q2<;>rfl
  |_=>show(kr _).symm
 |_=>rfl
def a_0(a):(qw (.list [a])).isSome=BB Q3 a:=by
 cases a with
 |word w=>change(if(w==Q3)=ae then _ else af).isSome=(w==Q3);cases w==Q3<;>rfl
 |_=>rfl
def a_1(a b c)(r):qw (.list (a::b::c::r))=none:=by cases a<;>first|rfl|(cases b<;>rfl)
def a_2(t)(h:BE t<=64):OL [AE t]=aa (.bl (qw t).isSome):=by
 cases t with
 |num n=>rfl
 |word w=>rfl
 |list l=>
  let hq:∃r,C9 _ (.tup [.str "count"])=aa r/\_:=asa (b:=.list [.word Q3]) h yD;let⟨q,W,j⟩:=hq;clear h;let e1:AA .Eq (AE (.list l)) (.tup [.str "count"])=aa (.bl q):=by change(C9 _ _).map _=_;rw[W];rfl
  change AK (AI _ _ _)=_;rw[e1];match l,j with
  |[],j=>let:q=false:=yL;subst this;rfl
  |[a],j=>
   rw[a_0];let:q=BB Q3 a:=by
    rw[oj,j];cases a with
    |word w=>simp[BB]
    |_=>simp[BB]
   subst this;rfl
  |[a,b],_=>rw[a_z];change AK ((A0 (AA .Eq _ _) (BJ [AE b,.ty "str"])).map Out.ret)=_;rw[d5,aa8 a Q2 "sum" rfl,xb];cases BB Q2 a<;>rfl
  |a::b::c::r,j=>
   let:q=false:=by cases q<;>grind
   subst this;rw[a_1];rfl
noncomputable def lenOf:Tr->ai
 |.list l=>l.length
 |_=>0
def asi(h:DB t=ae):AM [AE t]=aa (.int (lenOf t)):=by
 cases t with
 |list l=>show acf l
 |_=>trivial
def a_3(a b)(r):OK [AE (.list (a::b::r))]=aa (.bl (match r with|[c,d,e]=>DB c&&(CN d&&(DB e&&(decide (1<=lenOf c)&&decide (lenOf c=lenOf e))))|_=>ag)):=by
 obtain _|⟨c,_|⟨d,_|⟨e,_|_⟩⟩⟩:=r<;>try rfl
 change AK (AI (A7 (BA (FP [AE c])) (A7 (BA (BJ [AE d,.ty "str"])) (BA (FP [AE e])))) _ ((A0 (AG _ (AM [AE c]) _) (AG _ (AM [AE c]) (AM [AE e]))).map Out.ret))=_;rw[abg,abg,xb];dsimp only;cases h1:DB c with
 |false=>rfl
 |true=>
  cases CN d with
  |false=>rfl
  |true=>
   cases h2:DB e with
   |false=>rfl
   |true=>rw[asi h1,asi h2];change AK ((A0 (AA .GtE _ _) (AA .Eq _ _)).map Out.ret)=_;rwa[aeh,vt,md];let j:decide ((1:ak)<=(lenOf c:ai))=decide (1<=lenOf c):=yx.mpr yL;let q:decide (((lenOf c:ai):ak)=(lenOf e:ai))=decide (lenOf c=lenOf e):=yx.mpr yL;rw[j,q];cases decide (1<=lenOf c)<;>rfl
def a_4(a b)(r)(hd:∀u,u∈r->BE u<=64):OM [AE (.list (a::b::r))]=aa (.bl (match(generalizing:=false)r with|[c,d,e,f]=>DB c&&((qw d).isSome&&(isNm e&&isNm f))|_=>ag)):=by
 obtain _|⟨c,_|⟨d,_|⟨e,_|⟨f,_|_⟩⟩⟩⟩:=r<;>try rfl
 change AK (AI (A7 (BA (FP [AE c])) (BA (OL [AE d]))) _ ((A0 (BJ [AE e,.ty "int"]) (BJ [AE f,.ty "int"])).map Out.ret))=_;rw[abg,a_2 d (hd d yS),ahw,ahw];dsimp;cases DB c<;>cases(qw d).isSome<;>cases isNm e<;>cases isNm f<;>rfl
def a_5(a b):(ku (.list [a,b])).isSome=false:=by
 cases a with
 |word w=>
  cases b with
  |word t=>delta ku;simp
  |_=>rfl
 |_=>rfl
def abh(l):(ib lc l).isSome=DB (.list l):=ash l
def a_6(a b c)(r):ON [AE (.list (a::b::c::r))]=AK (AI (BA (BJ [AE b,.ty "str"])) (aa (.ret (.bl ag))) (CL (JC 42) FP OK OM (AE (.list (a::b::c::r))) (AE a))):=by let j:AB (AE (.list _)) (.int 0)=aa _:=ny (a::b::c::r) 0;let h1:AB (AE (.list _)) (.int 1)=aa _:=ny (a::b::c::r) 1;change AK (AI _ _ _)=_;rw[j,h1];rfl
def a_7{j}(p q)[ava p][ava q](x:j):(if p/\q then aa x else af).isSome=(decide p&&decide q):=by grind
def a_8(t)(hd:BE t<42):ON [AE t]=aa (.bl (ku t).isSome):=by
 obtain _|_|_|⟨a,_|⟨b,_|⟨c,r⟩⟩⟩:=t;.rfl
 .rfl
 .rfl
 .cases a<;>rfl
 .rw[a_5];rfl
 let hdu:∀u,u∈c::r->BE u<42:=λu hu=>by let:=aad (l:=a::b::c::r) (t:=u) (dj _ (dj _ hu));lia
 let hc:=λz=>eh (λz=>AK (z.map Out.ret)) (aq8 42 c z (hdu c yS) (b8 _));let hr:=eh (λz=>AK (z.map Out.ret)) (a_3 a b (c::r));let hg:=eh (λz=>AK (z.map Out.ret)) (a_4 a b (c::r) λu hu=>by let:=hdu u hu;omega);show(a_6 _ _ _ _).trans ?_;cases b with
 |num|list=>cases a<;>rfl
 |word tn=>
 change AK (CL _ _ _ _ (AE (.list (a::.word tn::c::r))) _)=_;cases a with
 |num|list=>rfl
 |word w=>
 by_cases c1:w=J4;.subst c1;cases r with
  |nil=>show(hc ag).trans (by rw[<-om];rfl)
  |cons=>rfl
 by_cases c2:w=Q4;.subst c2;cases r with
  |nil=>show(hc ag).trans (by rw[<-om];rfl)
  |cons=>rfl
 by_cases c3:w=aw7;.subst c3;cases r with
  |nil=>show(hc ae).trans (by rw[<-om];rfl)
  |cons=>rfl
 by_cases c4:w=J5;.subst c4;cases r with
  |nil=>show(hc ae).trans (by rw[<-om];rfl)
  |cons=>rfl
 clear hc;by_cases c5:w=aw8;.subst c5;clear hr hg hd hdu;cases r with
  |nil=>
   show(eh (λz=>AK (z.map Out.ret)) (abg c)).trans ?_;cases c with
   |list l=>rw[<-abh,<-om];rfl
   |_=>rfl
  |cons=>cases c<;>rfl
 by_cases c6:w=aw9
 .subst c6;clear hr hg hd hdu;obtain _|⟨d,_|_⟩:=r;.cases c<;>rfl
  .show(eh (λz=>AK (z.map Out.ret)) (congr (eh A0 (abg c)) (abg d))).trans ?_;cases c with
   |list l=>
    cases d with
    |list m=>rw[<-abh,<-abh];change _=aa (D.bl ((ib lc l).bind λcs=>(ib lc m).map λds=>bj2 tn cs ds).isSome);cases ib lc l<;>cases ib lc m<;>rfl
    |_=>cases DB (.list l)<;>rfl
   |_=>rfl
  .cases c<;>cases d<;>rfl
 by_cases c7:w=NJ
 .subst c7;show hr.trans ?_;clear hd hdu hg hr;obtain _|⟨d,_|⟨e,_|_⟩⟩:=r;.cases c<;>rfl
  .cases c<;>cases d<;>rfl
  .change aa (D.bl (DB c&&(CN d&&(DB e&&_))))=_;cases c with
   |list l=>
    cases d with
    |word u=>
     cases e with
     |list m=>
      change aa (D.bl (DB (.list l)&&(DB (.list m)&&(decide (1<=l.length)&&decide (l.length=m.length)))))=aa (D.bl ((ib lc l).bind λcs=>(ib lc m).bind λds=>if 1<=cs.length/\cs.length=ds.length then aa (bj3 tn cs u ds)else af).isSome);rw[<-abh,<-abh];cases hl:ib lc l with
      |none=>rfl
      |some cs=>
       cases hm:ib lc m with
       |none=>rfl
       |some ds=>rwa[se hl,se hm,bt,bt];show eh (λz=>aa (D.bl z)) (a_7 _ _ _).symm
     |_=>cases DB (.list l)<;>rfl
    |_=>cases DB (.list l)<;>rfl
   |_=>rfl
  .cases c<;>cases d<;>cases e<;>rfl
 by_cases c8:w=yz
 .subst c8;show hg.trans ?_;clear hd hdu hr hg;obtain _|⟨d,_|⟨e,_|⟨f,_|_⟩⟩⟩:=r;.cases c<;>rfl
  .cases c<;>rfl
  .cases c<;>cases e<;>rfl
  .change aa (D.bl (DB c&&((qw d).isSome&&(isNm e&&isNm f))))=_;cases c with
   |list l=>
    cases e with
    |num n=>
     cases f with
     |num m=>change aa (D.bl (DB (.list l)&&((qw d).isSome&&ae)))=aa (D.bl ((ib lc l).bind λcs=>(qw d).map λs=>bj4 tn cs s n m).isSome);rw[<-abh];cases ib lc l<;>cases qw d<;>rfl
     |_=>cases DB (.list l)<;>cases(qw d).isSome<;>rfl
    |_=>cases DB (.list l)<;>cases(qw d).isSome<;>rfl
   |_=>rfl
  .cases c<;>cases e<;>cases f<;>rfl
 let h:∀k s,s=S k->w≠k->AA .Eq (AE (.word w)) (.str s)=aa (.bl ag):=λk s h q=>by rw[aa8 _ k s h];simp[BB,q]
 let e:(ku (.list (.word w::.word tn::c::r)))=none:=by delta ku;dsimp only;simp[c1,c2,c3,c4,c5,c6,c7,c8]
 rw[e];generalize AE (.list _)=x;delta CL;rwa[h _ "each" rfl c1,h _ "any" rfl c2,h _ "pairs" rfl c3,h _ "next" rfl c4,h _ "key" rfl c5,h _ "fixes" rfl c6,h _ "refers" rfl c7,h _ "groups" rfl c8];rfl
def a_9(r):((AF ((A6 (λd=>((BJ [d,(.ty "str")]).map aa)) (AV r)).map D.lst) (aa [])).bind B3)=aa (.bl (r.all CN)):=by erw[nv,comp_map λt j=>by rw[xb];rfl,all_map CN r]
def baa(b)(r):(tm (.list (.word kx::b::r))).isSome=(CN b&&(r.all CN&&decide (r.length+1<=10))):=by
 let key:(((ib lc (b::r)).bind λws=>if 1<=ws.length/\ws.length<=bj5 then aa (bnv ws)else af)).isSome=(CN b&&(r.all CN&&decide (r.length+1<=10))):=by
  let hw:=ash (b::r);simp[ux]at hw;cases he:ib lc (b::r)with
  |none=>grind
  |some ws=>
   rw[he]at hw;rw[<-Bool.and_assoc,<-hw];let hl:ws.length=r.length+1:=by let:=eh wa (se he);walk
   rw[b5];by_cases q:r.length+1<=10;.rw[aj ⟨yL,by erw[hl,q]⟩,gm q];rfl
   .rw[ao (λz=>q (by erw[<-hl,z.2])),gi q];rfl
 cases b with
 |num n=>cases r<;>rfl
 |word w=>rw[<-key];rfl
 |list l=>rfl
def bab(b)(r):(tm (.list (.word y3::b::r))).isSome=(r.isEmpty&&(match b with|.num n=>decide (1<=n)|_=>ag)):=by
 cases b with
 |num n=>
  cases r with
  |nil=>change(if(y3==y3&&decide _)=ae then aa (bj6 n)else af).isSome=_;grind
  |cons c r=>rfl
 |word w=>cases r<;>rfl
 |list l=>cases r<;>rfl
def bac(a b)(r)(h1:BB y3 a=ag)(h2:BB kx a=ag):tm (.list (a::b::r))=none:=by
 cases a with
 |num n=>rfl
 |list l=>rfl
 |word w=>
  let q:(w==y3)=false:=h1;let j:(w==kx)=false:=h2;cases b with
  |num n=>
   cases r with
   |nil=>change(if(w==y3&&decide _)=ae then aa (bj6 n)else af)=af;lia
   |cons c r=>change(if(w==kx)=ae then _ else af)=af;lia
  |word x=>cases r<;>(change(if(w==kx)=ae then _ else af)=af;lia)
  |list x=>cases r<;>(change(if(w==kx)=ae then _ else af)=af;rw[j];rfl)
def asj(t):LK [AE t]=aa (.bl (tm t).isSome):=by
 change AK _=_;cases t with
 |num n=>rfl
 |word w=>rfl
 |list l=>
  match l with
  |[]=>rfl
  |[a]=>
   let:(tm (.list [a])).isSome=false:=by
    cases a with
    |word w=>change(if(w==kx)=ae then _ else af).isSome=ag;cases(w==kx)<;>rfl
    |_=>rfl
   rw[this];rfl
  |a::b::r=>
   let j:AM [AE (.list (a::b::r))]=aa (.int (r.length+2:ai)):=acf (a::b::r);let h0:AB (AE (.list (a::b::r))) (.int 0)=aa (AE a):=ny (a::b::r) 0;let h1:=ny (a::b::r) 1;let es:BZ (aa (AE (.list (a::b::r)))) _ af=aa _:=aa7 _ _;let W:=a_9 (b::r);delta ABB;rwa[ahx,j,h0,h1,es,dm,xg,show decide (((r.length+2:ai):ak)<2)=ag by simp;lia];rwa[ACE,lm,nz,ajq,U3,yg,cx,dm,aa8 a y3 "up" rfl,aei a kx "of" rfl,vt,cv,b5,ahw,md,a10];rw[show BM _=aa (AV (b::r))from rfl,b5];clear es h0 h1 j;cases hU:BB y3 a with
   |true=>
    rw[aq7 hU,bab];clear W;cases r with
    |nil=>
     cases b with
     |num n=>change aa (D.bl _)=aa _;congr 2;show yx.mpr yL
     |word x=>rfl
     |list x=>rfl
    |cons c r=>rfl
   |false=>
    cases hO:BB kx a with
    |false=>rw[bac a b r hU hO];rfl
    |true=>
     rw[aq7 hO,baa];rwa[ajq,U3,yg];rwa[la,cx,W];by_cases q:r.length+1<=10;.rw[ao (by simp;lia),gm q,VS];rfl
     .rw[aj (by simp;lia),gi q,kr,kr];rfl
def bae(a b):(y4 (.list [a,b])).isSome=(CN a&&(tm b).isSome):=by
 cases a with
 |word w=>change((tm b).map _).isSome=_;rw[om];rfl
 |_=>rfl
def baf(a b c):(y4 (.list [a,b,c])).isSome=(BB Q5 c&&(CN a&&(tm b).isSome)):=by
 cases a with
 |word w=>
  cases c with
  |word m=>
   change(if(m==Q5)=ae then(tm b).map _ else af).isSome=((m==Q5)&&_);cases(m==Q5);.rfl
   .rw[aj rfl,om];rfl
  |_=>rfl
 |_=>show(kr _).symm
def bag(t):S9 [AE t]=aa (.bl (y4 t).isSome):=by
 change AK _=_;cases t with
 |num n=>rfl
 |word w=>rfl
 |list l=>
  match l with
  |[]=>rfl
  |[a]=>cases a<;>rfl
  |[a,b]=>rw[bae];change AK ((A0 (BJ [AE a,.ty "str"]) (LK [AE b])).map Out.ret)=_;rw[d5,xb,asj,md];cases CN a<;>rfl
  |[a,b,c]=>rw[baf];change AK (AI (AA .NotEq (AE c) _) _ ((A0 (BJ [AE a,.ty "str"]) (LK [AE b])).map Out.ret))=_;rwa[aei c Q5 "maybe" rfl,xb,asj,md,cx];cases BB Q5 c<;>cases CN a<;>rfl
  |a::b::c::d::r=>
   let j:AM [AE (.list (a::b::c::d::r))]=aa (.int (r.length+4:ai)):=acf _;let q:y4 (.list (a::b::c::d::r))=none:=by cases a<;>cases c<;>rfl
   rw[q];delta ABC;rwa[ahx,j,dm,dm,xg,la,show decide ((3:ak)<(r.length+4:ai))=ae by simp;lia];rfl
def aif(f:Tr->ah q)(l):(ib f l).isSome=l.all λt=>(f t).isSome:=by
 induction l with
 |nil=>rfl
 |cons t l j=>simp[ib,<-j];cases f t<;>cases ib f l<;>rfl
def aih{f}:∀{l}{as:ab q},ib f l=aa as->as.length=l.length
 |[],as,h=>by injection h with h;subst h;rfl
 |t::l,as,h=>by let⟨a,_,h⟩:=ay h;let⟨s,j,rfl⟩:=bo h;rw[d6,d6,aih j]
def aii{g:ab D->ah D}{p}(l)(h:∀t,t∈l->g [AE t]=aa (.bl (p t))):((AF ((A6 (λd=>((g [d]).map aa)) (AV l)).map D.lst) (aa [])).bind B3)=aa (.bl (l.all p)):=by erw[nv,comp_map λt j=>by rw[h t j];rfl,all_map p l]
def YM:Tr->a4
 |.list l=>decide (1<=l.length)&&(decide (l.length<=6)&&l.all λt=>(y4 t).isSome)
 |_=>ag
def bah(t):OP [AE t]=aa (.bl (YM t)):=by
 change AK _=_;cases t with
 |num n=>rfl
 |word w=>rfl
 |list l=>
  let hlen:AM [AE (.list l)]=aa _:=acf l;delta ABD;rwa[hlen,dm,xg,la];change AK (AI _ _ (((AF ((A6 _ _).map D.lst) _).bind B3).map Out.ret))=_;rwa[(aii l λt ζ=>bag t),nz,nz];change _=aa (D.bl (decide _&&_));by_cases q1:1<=l.length
  .rw[show decide _=ag by simp;lia,gm q1];by_cases q2:l.length<=6;.rw[show decide _=ag by simp;lia,gm q2];rfl
   .rw[show decide _=ae by simp;lia,gi q2];rfl
  .rw[show decide _=ae by simp;lia,gi q1];rfl
def bai(t):TB [AE t]=aa (.bl (VT t).isSome):=by
 cases t with
 |num n=>rfl
 |word w=>rfl
 |list l=>cases l<;>rfl
def AFP:Tr->a4
 |.list l=>l.all λt=>(VT t).isSome
 |_=>ag
def baj(t):(y6 t).isSome=AFP t:=by
 cases t with
 |list l=>show aif VT l
 |_=>rfl
def asl(t):IE [AE t]=aa (.bl (y6 t).isSome):=by
 cases t with
 |num n=>rfl
 |word w=>rfl
 |list l=>change AK ((A0 _ ((AF ((A6 _ _).map D.lst) _).bind B3)).map Out.ret)=_;rw[(aii l λt j=>bai t),baj];rfl
def asm(a b c)(l):IR (.tup (a::b::c::l)) (aa 3) af=aa (.tup l):=by
 let h1:HT.BL (a::b::c::l).length 0 (aa 3)=3:=by rfl
 let h2:HT.BL (a::b::c::l).length (a::b::c::l).length af=(a::b::c::l).length:=rfl;delta IR;grind[DL.cutD]
def bak(a b c)(r):(VU (.list (a::b::c::r))).isSome=(BB m6 a&&(CN b&&(YM c&&(decide (r.length<=40)&&r.all λt=>(y6 t).isSome)))):=by
 cases a with
 |num n=>rfl
 |list n=>rfl
 |word w=>
  cases b with
  |num n=>cases BB m6 _<;>rfl
  |list n=>cases BB m6 _<;>rfl
  |word t=>
   cases c with
   |num n=>cases BB m6 _<;>rfl
   |word n=>cases BB m6 _<;>rfl
   |list cs=>
    change(if(w==m6)=ae then(ib y4 cs).bind λcs=>(ib y6 r).bind λrs=>if(1<=cs.length/\cs.length<=bj7)/\rs.length<=aj5 then aa (_)else af else af).isSome=((w==m6)&&(ae&&_));cases(w==m6)with
    |false=>rfl
    |true=>
     rw[aj rfl,oq,oq,<-aif y6 r];change _=((decide _&&_)&&_);rw[<-aif y4 cs];cases h1:ib y4 cs with
     |none=>simp
     |some ks=>
      cases h2:ib y6 r with
      |none=>simp
      |some rs=>simp[(aih h1),(aih h2)];by_cases q1:1<=cs.length<;>by_cases q2:cs.length<=6<;>by_cases q3:r.length<=40<;>simp[q1,q2,q3,bj7,aj5]
def bal(t):TC [AE t]=aa (.bl (VU t).isSome):=by
 change AK _=_;cases t with
 |num n=>rfl
 |word w=>rfl
 |list l=>
  match l with
  |[]=>rfl
  |[a]=>cases a<;>rfl
  |[a,b]=>cases a<;>cases b<;>rfl
  |a::b::c::r=>
   let hlen:AM [AE (.list (a::b::c::r))]=aa _:=acf (a::b::c::r);let h0:AB (AE (.list (a::b::c::r))) (.int 0)=aa (AE a):=ny (a::b::c::r) 0;let h1:AB (AE (.list (a::b::c::r))) (.int 1)=aa (AE b):=ny (a::b::c::r) 1;let h2:AB (AE (.list (a::b::c::r))) (.int 2)=aa (AE c):=ny (a::b::c::r) 2;let es:BZ (aa (AE (.list (a::b::c::r)))) (aa (aa (.int 3))) af=aa (.tup (AV r)):=asm _ _ _ (AV r);rw[bak];delta ABE;rwa[ahx,hlen,h0,h1,h2,es];change AK (AI (A7 _ (A7 _ (AA .Gt (.int (r.length+3:ai)) (.int 43)))) _ (AI (A7 (AA .NotEq (AE a) (.str "table")) (A7 (BA (BJ [AE b,.ty "str"])) (BA (OP [AE c])))) _ (((AF ((A6 _ (AV r)).map D.lst) (aa [])).bind B3).map Out.ret)))=_;rwa[(aii (g:=IE) r λt ζ=>asl t),xg,la,aei a m6 "table" rfl,xb,bah,lm,lm,nz,nz,nz,nz];by_cases q:r.length<=40;.rw[show decide ((43:ak)<(r.length+3:ai))=ag by simp;lia,gm q];cases BB m6 a<;>cases CN b<;>cases YM c<;>rfl
   .rw[show decide ((43:ak)<(r.length+3:ai))=ae by simp;lia,gi q,JO,kr,kr,kr];rfl
def EI(c:mw):D:=AE c.tree
def CZ(cs:ab mw):D:=.tup (cs.map EI)
def B6(rs:ab Q0):D:=.tup (rs.map AY)
def in_words(x):∀j:ab Bytes,DH (BX x) (AV (j.map er))=aa (match x with|.word w=>j.contains w|_=>ag)
 |[]=>by cases x<;>rfl
 |v::j=>by
  rw[b9,AV,DH,in_words x j];let:C9 (AE (.word v)) _=aa _:=aib (.word v) x;rw[this];cases x with
  |num n=>rfl
  |gone=>rfl
  |word w=>change aa _=aa _;congr 1;grind
def bam(x)(c):LM [BX x,EI c]=aa (.bl (c.has x)):=by
 change AK _=_;let⟨nm,k,j⟩:=c;delta ABF;let hg:=aic x .gone;clear hg;cases x with
 |gone=>cases k<;>cases j<;>rfl
 |num m=>
  cases k with
  |up n=>
   let:AK ((A0 (BJ [.int m,.ty "int"]) (AA .Lt (.int m) (.int n))).map Out.ret)=aa (.bl (decide (m<n))):=by change aa (D.bl _)=_;simp
   let e:(aj6 nm (.up n) j).has (.num m)=decide (m<n):=by change(decide (m<n)||(j&&ag))=_;rw[kr,yd]
   rw[e,<-this];clear e;cases j<;>rfl
  |of_ q=>
   let e:(aj6 nm (.of_ q) j).has (.num m)=false:=by change(ag||(j&&ag))=_;rw[kr,yd]
   let h1:AB (EI ⟨nm,.of_ q,j⟩) (.int 1)=aa (AE (.list (.word kx::q.map er))):=by cases j<;>rfl
   let W:AB (AE (.list _)) (.int 0)=aa _:=ny (.word kx::q.map er) 0;let es:BZ (aa (AE (.list (.word kx::q.map er)))) _ af=aa _:=aa7 _ _;rw[e,h1,b5,W,es];change AK (((DH _ _).map D.bl).map Out.ret)=_;rw[in_words];rfl
 |word w=>
  cases k with
  |up n=>
   let e:(aj6 nm (.up n) j).has (.word w)=false:=by change(ag||(j&&ag))=_;rw[kr,yd]
   cases j<;>rfl
  |of_ q=>
   let e:(aj6 nm (.of_ q) j).has (.word w)=q.contains w:=by change(q.contains w||(j&&ag))=_;rw[kr,yd]
   let h1:AB (EI ⟨nm,.of_ q,j⟩) (.int 1)=aa (AE (.list (.word kx::q.map er))):=by cases j<;>rfl
   let W:AB (AE (.list _)) (.int 0)=aa _:=ny (.word kx::q.map er) 0;let es:BZ (aa (AE (.list (.word kx::q.map er)))) _ af=aa (.tup _):=aa7 _ _;rw[e,h1,b5,W,es];change AK (((DH _ _).map D.bl).map Out.ret)=_;rw[in_words];rfl
def ban(g):∃f:D->D->D->ah (ah D),(∀q j,ABH g q j=
 AI (AG (AA .NotEq) (AM [q]) (AM [j])) (aa (.ret (.bl ag))) (((AF ((W5 (aa q) (aa j)).bind λW=>(A6 (f q j) W).map D.lst) (aa [])).bind B3).map Out.ret))/\∀q j a b,f q j (.tup [a,b])=(g [a,b]).map some:=by
 show ap ?f ?h2 ?h1;case h2=>intro q j;rfl
 case h1=>intro q j a b;rfl
def zip_map{j q:Type}(f)(g:q->D):∀(l:ab j)(m),CU (l.map f) (m.map g)=(l.zip m).map λp=>.tup [f p.1,g p.2]
 |[],_=>by rfl
 |_::_,[]=>rfl
 |a::l,b::m=>by change D.tup [f a,g b]::CU _ _=_;rw[zip_map f g l m];rfl
def asn(r)(cs):IF [AY r,CZ cs]=aa (.bl (lu cs r)):=by
 change AK _=_;show au (ban LM) λf' he hf'=>?_;rw[he];generalize hq:f' _ _=f;let hf:∀a b,f _=(LM [a,b]).map some:=λa b=>by erw[<-hq,hf' _ _ a b]
 change AK (AI (AA .NotEq _ _) _ (((AF ((A6 f _).map D.lst) _).bind B3).map Out.ret))=_;rw[a9u,cx,bt,bt,zip_map,comp_map λp ζ=>by rw[hf,bam];rfl];delta lu;by_cases hl:r.length=cs.length;.rw[ao yL,show(r.length==cs.length)=ae by simp[hl]];change AK ((B3 [.lst _]).map Out.ret)=_;rw[d5,all_map];clear hl he hf hq f hf' f';induction r generalizing cs with
  |nil=>simp
  |cons x r ih=>cases cs<;>walk
 .rw[aj (by lia),show(r.length==cs.length)=ag by simp[hl]];rfl
def bao(rs)(cs):TF [B6 rs,CZ cs]=aa (.bl (rs.all (lu cs))):=by change AK (((AF ((A6 _ _).map D.lst) _).bind B3).map Out.ret)=_;erw[d5,comp_map λr j=>by rw[asn];rfl,all_map _ rs]
def BF(T:gj):D:=.obj "Table" ["name","columns","rows","places"] [.str (S T.name),CZ T.cols,B6 T.rows,C4 T.cols]
def BN(s:sy):D:=.d8 (s.map λT=>.inr (S T.name)) (s.map BF)
def aep(x):∀s,CT (s.map λT=>.inr (S T.name)) (s.map BF) (.inr (S x))=(bw s x).map BF
 |[]=>rfl
 |T::s=>by
  let j:=aep x s;let e:(xu (S T.name):Key)=.inr (S x)↔(T.name==x)=true:=by grind[vq]
  delta bw at j⊢;rw[b9,b9,CT];grind
def aam(s)(x):AB (BN s) (.str (S x))=(bw s x).map BF:=aep x s
def bap(s)(x):AA .NotIn (.str (S x)) (BN s)=aa (.bl (!(bw s x).isSome)):=by change aa (D.bl _)=_;rw[aep,om]
def baq(s)(x):AA .In (.str (S x)) (BN s)=aa (.bl (bw s x).isSome):=by change aa (D.bl (CT _ _ _).isSome)=_;rw[aep,om]
def bas(cs)(x):AA .In (.str (S x)) (C4 cs)=aa (.bl (cs.findIdx? λc=>c.name==x).isSome):=by change aa _=_;simp[ah8]
def acr(T):A8 FL "places" (aa (BF T))=aa (C4 T.cols):=by rfl
def aso(T):A8 FL "columns" (aa (BF T))=aa (CZ T.cols):=by rfl
def abi(T):A8 FL "rows" (aa (BF T))=aa (B6 T.rows):=by rfl
def DC(s:sy)(x:Bytes)(l:ab Bytes):Bool:=match bw s x with
 |none=>ag
 |some T=>T.hasCols l
def asp(s)(x)(l)(d)(hd:BM d=aa (BK l)):FQ [BN s,.str (S x),d]=aa (.bl (DC s x l)):=by
 change AK _=_;delta AA9;rwa[bap,aam,cx,b5,hd];delta DC;cases h:bw s x with
 |none=>rfl
 |some T=>change AK (((AF ((A6 (λd=>((AG _ _ (aa _)).map aa)) _).map D.lst) _).bind B3).map Out.ret)=_;delta BK;erw[comp_map λc j=>by rw[dm,bas];rfl,d5,all_map _ l]
def n9(l):AV (l.map er)=BK l:=by rw[nv,el];rfl
def NmC(t:Tr):y8->Prop
 |.each n x=>∃c,t=.list [.word J4,.word n,c]/\g0 ag c=aa x
 |.any n x=>∃c,t=.list [.word Q4,.word n,c]/\g0 ag c=aa x
 |.pairs n x=>∃c,t=.list [.word aw7,.word n,c]/\g0 ae c=aa x
 |.next n x=>∃c,t=.list [.word J5,.word n,c]/\g0 ae c=aa x
 |.key n cs=>t=.list [.word aw8,.word n,.list (cs.map er)]
 |.fixes n cs ds=>t=.list [.word aw9,.word n,.list (cs.map er),.list (ds.map er)]
 |.refers n cs u ds=>t=.list [.word NJ,.word n,.list (cs.map er),.word u,.list (ds.map er)]/\1<=cs.length/\cs.length=ds.length
 |.groups n cs a lo hi=>t=.list [.word yz,.word n,.list (cs.map er),NK a,.num lo,.num hi]
def jv(h:ku t=aa k):NmC t k:=by
 obtain _|_|_|⟨_|w|_,_|⟨_|n|_,r⟩⟩:=t<;>w_top h
 delta ku at h;dsimp only at h;k_lt h
 .ext c;rw[eq_of_beq c];obtain _|⟨c,_|_⟩:=r<;>w_top h
  let⟨x,hx,rfl⟩:=bo h;show ap _ rfl hx
 k_lt h
 .ext c;rw[eq_of_beq c];obtain _|⟨c,_|_⟩:=r<;>w_top h
  let⟨x,hx,rfl⟩:=bo h;show ap _ rfl hx
 k_lt h
 .ext c;rw[eq_of_beq c];obtain _|⟨c,_|_⟩:=r<;>w_top h
  let⟨x,hx,rfl⟩:=bo h;show ap _ rfl hx
 k_lt h
 .ext c;rw[eq_of_beq c];obtain _|⟨c,_|_⟩:=r<;>w_top h
  let⟨x,hx,rfl⟩:=bo h;show ap _ rfl hx
 k_lt h
 .ext c;rw[eq_of_beq c];k_lt h<;>w_top h
  let⟨x,hx,rfl⟩:=bo h;rw[se hx];rfl
 k_lt h
 .ext c;rw[eq_of_beq c];k_lt h<;>w_top h
  let⟨x,hx,h⟩:=ay h;let⟨y,hy,rfl⟩:=bo h;rw[se hx,se hy];rfl
 k_lt h
 .ext c;rw[eq_of_beq c];k_lt h<;>w_top h
  let⟨x,hx,h⟩:=ay h;let⟨y,hy,h⟩:=ay h;rw[se hx,se hy];k_lt h<;>w_top h
  cases h;show⟨rfl,‹_›⟩
 k_lt h<;>w_top h
 ext c;rw[eq_of_beq c];k_lt h<;>w_top h
 let⟨x,hx,h⟩:=ay h;let⟨y,hy,rfl⟩:=bo h;rw[se hx];delta qw at hy;k_lt hy<;>w_top hy
 all_goals
  k_lt hy<;>w_top hy
  ext q;cases hy;rw[eq_of_beq q];rfl
def C5:y8->ab Bytes
 |.each _ c=>c.cols
 |.any _ c=>c.cols
 |.pairs _ c=>c.cols
 |.next _ c=>c.cols
 |.key _ cs=>cs
 |.fixes _ cs ds=>cs++ds
 |.refers _ cs _ _=>cs
 |.groups _ cs a _ _=>cs++a.toList
def aeq(l):(BK l).length=l.length:=by simp[BK]
def asq(l m):BK (l++m)=BK l++BK m:=by simp[BK]
def bat(hd:BE t<42)(h:ku t=aa k)(q:(C5 k).length<=aw):∃d,OO [AE t]=aa d/\BM d=aa (BK (C5 k)):=by
 obtain⟨n,x⟩|⟨n,x⟩|⟨n,x⟩|⟨n,x⟩|⟨n,cs⟩|⟨n,cs,ds⟩|⟨n,cs,u,ds⟩|⟨n,cs,a,lo,hi⟩:=k<;>first|let⟨c,rfl,W⟩:=jv h|let⟨rfl,q1,q2⟩:=jv h|subst jv h
 iterate 4·show ap (.lst (BK x.cols)) ?_ rfl;change AK ((GO 42 [AE c]).map Out.ret)=_;rw[d5,a_s 42 c x (JW (aad yS) hd) (b8 _) W q]
 .show⟨.tup (AV (cs.map er)),rfl,by rw[n9];rfl⟩
 .show ap (.tup (BK (cs++ds))) ?_ rfl;change AK ((BI (.tup (AV (cs.map er))) (.tup (AV (ds.map er)))).map Out.ret)=_;rw[d5,n9,n9];let j:(cs++ds).length<=sizeLine:=q;rw[e9]at j;change(if(BK cs).length+(BK ds).length<=aw then aa (D.tup (BK cs++BK ds))else af)=_;rw[aj (by erw[aeq,aeq,j]),asq]
 .show⟨.tup (AV (cs.map er)),rfl,by rw[n9];rfl⟩
 .show ap (.tup (BK (cs++a.toList))) ?_ rfl;let j:(cs++a.toList).length<=sizeLine:=q;rw[e9]at j;let e:OO [AE (.list [.word yz,.word n,.list (cs.map er),NK a,.num lo,.num hi])]=BI (.tup (AV (cs.map er))) (.tup (BK a.toList)):=by
   clear h hd q j;cases a with
   |none=>change AK ((BI (.tup (AV (cs.map er))) (.tup [])).map Out.ret)=_;rw[d5];rfl
   |some c=>change AK ((BI (.tup (AV (cs.map er))) (.tup [.str (S c)])).map Out.ret)=_;rw[d5];rfl
  rw[e,n9];change(if(BK cs).length+(BK a.toList).length<=aw then aa (D.tup (BK cs++BK a.toList))else af)=_;rw[aj (by erw[aeq,aeq,j]),asq]
def JJ(T:gj):Prop:=ou (T.cols.map λc=>c.name)=ag
def aer(T:gj)(l m):T.hasCols (l++m)=(T.hasCols l&&T.hasCols m):=by simp[bj8]
def bau(k:VW):AB (AE k.tree) (.int 0)=aa (.str (match k with|.up _=>S y3|.of_ _=>S kx)):=by
 cases k with
 |up n=>rfl
 |of_ j=>show ny _ 0
def PJ:VW->a4
 |.up _=>ae
 |.of_ _=>ag
def aij:∀{cs:ab mw}{c}{i}{x},ou (cs.map λc=>c.name)=ag->(cs.findIdx? λy=>y.name==c)=aa i->cs[i]?=aa x->(cs.any λy=>y.name==c&&PJ y.kind)=PJ x.kind
 |y::cs,c,i,x,ht,hi,hx=>by
  rw[b9,ou,bj9]at ht;rw[aw0]at hi;rw[MZ];by_cases q:(y.name==c)=ae;.rw[aj q]at hi;cases hi;cases hx;rw[q,oq,QH.mpr λz hz=>?_,yd];intro w;rw[cg]at w;rw[eq_of_beq q,<-eq_of_beq w.1,aj7.mpr (qp hz)]at ht;show nb ht.1.symm
  .rw[ao q]at hi;let⟨j,hj,rfl⟩:=bo hi;rw[Bool.not_eq_true]at q;erw[q,aij ht.2 hj hx]
def bav(hd:BE t<42)(h:ku t=aa k)(hs:(C5 k).length<=aw)(hu:∀x T,bw s x=aa T->JJ T):S8 [AE t,BN s]=aa (.bl (k.good s)):=by
 show au (bat hd h hs) λd ho hi=>?_;let hh:=λx=>asp s x (C5 k) d hi;change AK _=_;delta ABA;rw[ho];let q:∀w n c,BB NJ (.word w)=ag->BB yz (.word w)=ag->t=.list [.word w,.word n,c]->k.good s=DC s n (C5 k)->
  AK (AI (BA ((AF (aa (BN s)) (AF (AB (AE t) (.int 1)) (AF (aa d) (aa [])))).bind FQ)) (aa (.ret (.bl ag)))
  (AI (AG (AA .Eq) (AB (AE t) (.int 0)) (aa (.str "refers")))
  (((AF (aa (BN s)) (AF (AB (AE t) (.int 3)) (AF (AB (AE t) (.int 4)) (aa [])))).bind FQ).map Out.ret)
  (AI (A0 (AG (AA .Eq) (AB (AE t) (.int 0)) (aa (.str "groups"))) (AG (AA .Eq) (AG AB (AB (AE t) (.int 3)) (aa (.int 0))) (aa (.str "sum"))))
  ((AG AB (aa (BN s)) (AB (AE t) (.int 1))).bind λj=>
  ((AG (AA .Eq) (AG AB (AG AB (AG AB (A8 FL "columns" (aa j)) (AG AB (A8 FL "places" (aa j)) (AG AB (AB (AE t) (.int 3)) (aa (.int 1))))) (aa (.int 1))) (aa (.int 0))) (aa (.str "up"))).map Out.ret))
  (aa (.ret (.bl ae))))))=aa (.bl (k.good s)):=by intro w n c h1 h2 e hk;subst e;change AK (AI (BA (FQ [BN s,.str (S n),d])) (aa (.ret (.bl ag))) (AI (AA .Eq (AE (.word w)) (.str "refers")) _ (AI (A0 (AA .Eq (AE (.word w)) (.str "groups")) _) _ (aa (.ret (.bl ae))))))=_;rwa[hh,aa8 (.word w) NJ "refers" rfl,aa8 (.word w) yz "groups" rfl,h1,h2,hk];cases DC s n (C5 k)<;>rfl
 let W:∀n l,k.table=n->C5 k=l->(∀T,bw s n=aa T->k.good s=T.hasCols l)->k.good s=DC s n l:=by
  intro n l e1 e2 e3;delta DC;cases hf:bw s n with
  |none=>delta qx;rw[e1,hf]
  |some T=>show e3 T hf
 obtain⟨n,x⟩|⟨n,x⟩|⟨n,x⟩|⟨n,x⟩|⟨n,cs⟩|⟨n,cs,ds⟩|⟨n,cs,u,ds⟩|⟨n,cs,a,lo,up_⟩:=k<;>let e:=jv h;iterate 4·show au e λc e _=>q _ n c rfl rfl e (W n _ rfl rfl λT hT=>by delta qx;rwa[i3,hT,C5])
 .show q _ n _ rfl rfl e (W n _ rfl rfl λT hT=>by delta qx;rwa[i3,hT,C5])
 .let hg:(bj2 n cs ds).good s=DC s n (cs++ds):=W n _ rfl rfl λT hT=>by delta qx;rwa[i3,hT,aer]
  subst e;change AK (AI (BA (FQ [BN s,.str (S n),d])) (aa (.ret (.bl ag))) (aa (.ret (.bl ae))))=_;rw[hh,hg];change AK (AI (BA (aa (.bl (DC s n (cs++ds))))) _ _)=_;cases DC s n (cs++ds)<;>rfl
 .let⟨e,_⟩:=e;let hg:(bj3 n cs u ds).good s=(DC s n cs&&DC s u ds):=by
   unfold qx DC;rwa[i3];cases bw s n with
   |none=>rfl
   |some T=>dsimp only;cases bw s u<;>rfl
  subst e;let h2:=asp s u ds (.tup (AV (ds.map er))) (by rw[n9];rfl);change AK (AI (BA (FQ [BN s,.str (S n),d])) (aa (.ret (.bl ag))) ((FQ [BN s,.str (S u),.tup (AV (ds.map er))]).map Out.ret))=_;rw[hh,h2,hg];change AK (AI (BA (aa (.bl (DC s n cs)))) _ _)=_;cases DC s n cs<;>cases DC s u ds<;>rfl
 .clear h hd ho hs q;cases a with
  |none=>
   let hg:(bj4 n cs af lo up_).good s=DC s n (cs++[]):=W n _ rfl rfl λT hT=>by delta qx;rwa[i3,hT,ip,Option.all_none,VS]
   subst e;change AK (AI (BA (FQ [BN s,.str (S n),d])) (aa (.ret (.bl ag))) (aa (.ret (.bl ae))))=_;rw[hh,hg];change AK (AI (BA (aa (.bl (DC s n (cs++[]))))) _ _)=_;cases DC s n (cs++[])<;>rfl
  |some c=>
   subst e;change AK (AI (BA (FQ [BN s,.str (S n),d])) (aa (.ret (.bl ag))) ((AG AB (aa (BN s)) (aa (.str (S n)))).bind λj=>
    ((AG (AA .Eq) (AG AB (AG AB (AG AB (A8 FL "columns" (aa j)) (AG AB (A8 FL "places" (aa j)) (aa (.str (S c))))) (aa (.int 1))) (aa (.int 0))) (aa (.str "up"))).map Out.ret)))=_;rw[hh,dm,aam];change AK (AI (BA (aa (.bl (DC s n (cs++[c]))))) _ _)=_;unfold DC qx;rwa[i3];cases hT:bw s n with
   |none=>rfl
   |some T=>
    dsimp only;rwa[aer,j4,b5,aso,acr,dm,ah9];change _=aa (D.bl (T.hasCols cs&&qz T c));cases hcs:T.hasCols cs with
    |false=>rfl
    |true=>
     let hc1:T.hasCols [c]=(T.cols.findIdx? λy=>y.name==c).isSome:=by change((T.cols.findIdx? λy=>y.name==c).isSome&&ae)=_;rw[VS]
     rw[hc1];let hup:qz T c=T.cols.any λy=>y.name==c&&PJ y.kind:=by delta qz;rfl
     rw[hup];cases hi:T.cols.findIdx? λy=>y.name==c with
     |none=>
      let:(T.cols.any λy=>y.name==c&&PJ y.kind)=false:=by rw[QH];intro z hz hzz;rw[cg]at hzz;let:=bjr.mp hi z hz;rw[hzz.1]at this;cases this
      rw[this];rfl
     |some i=>
      let hil:i<T.cols.length:=by show(aj1.mp hi).1
      let hx:T.cols[i]?=aa T.cols[i]:=gz hil;rwa[aij (hu n T hT) hi hx,j4,dm];let hcol:AB (CZ T.cols) (.int (i:ai))=aa (EI T.cols[i]):=by change BQ (T.cols.map EI) ((i:ai):ak)=_;rw[p8,i9,hx];rfl
      let h1:AB (EI T.cols[i]) (.int 1)=aa (AE T.cols[i].kind.tree):=by let⟨nm,kd,may⟩:=T.cols[i];cases may<;>rfl
      rw[hcol,dm,h1,dm,bau];cases T.cols[i].kind<;>rfl
def RK(b:NM):Bool:=b==32||b==40||b==41||b==45||b==46||ox b||NN b
noncomputable def sgn(b:NM):Nat:=if b==10 then 32 else if RK b then b.toNat else 63
def Tx(bs:Bytes):Str:=⟨(bs.map sgn).toArray⟩
def xh(bs):(Tx bs).cps.size=bs.length:=by simp[Tx]
def aes(bs):(Tx bs).cps.toList=bs.map sgn:=rfl
def mf{P:NM->Prop}(h:∀n,n<256->P (VX n))(b):P b:=by let:=h b.toNat b.toNat_lt;walk
def T6:Str:="ABCDEFGHIJKLMNOPQRSTUVWXYZabcdefghijklmnopqrstuvwxyz"
def T7:Str:="0123456789"
def asr(b):decide (sgn b∈T6.cps.toList)=NN b:=mf (P:=λb=>decide (sgn b∈T6.cps.toList)=NN b) (by decide+kernel) b
def ass(b):decide (sgn b∈T7.cps.toList)=ox b:=mf (P:=λb=>decide (sgn b∈T7.cps.toList)=ox b) (by decide+kernel) b
def baw(b):decide (sgn b∈("-.":Str).cps.toList)=(b==45||b==46):=mf (P:=λb=>decide (sgn b∈("-.":Str).cps.toList)=(b==45||b==46)) (by decide+kernel) b
def JK(b:NM):D:=.str ⟨#[sgn b]⟩
def asu(h:bs.length<=aw):BM (.str (Tx bs))=aa (bs.map JK):=by change(if(Tx bs).cps.size<=aw then aa _ else af)=_;rw[xh,aj h,aes,el];rfl
def aik(h:bs.length<=aw):AM [.str (Tx bs)]=aa (.int bs.length):=by change(if(Tx bs).cps.size<=aw then aa (D.int (Tx bs).cps.size)else af)=_;rw[xh,aj h]
def bax(h:bs.length<=aw)(i:ai):AB (.str (Tx bs)) (.int i)=(bs[i]?).map JK:=by change(if(Tx bs).cps.size<=aw then(BQ (Tx bs).cps.toList i).map (λc=>D.str _)else af)=_;rw[xh,aj h,aes,p8,i9,bjy];rfl
def bay(b)(z):AA .In (JK b) (.str z)=aa (.bl (decide (sgn b∈z.cps.toList))):=rfl
def baz(b)(z):AA .NotIn (JK b) (.str z)=aa (.bl (!decide (sgn b∈z.cps.toList))):=rfl
def asv(h:w.length<=aw):LN [.str (Tx w)]=aa (.bl (i4 w)):=by
 change AK _=_;delta ABI;rw[aik h,show AB _ (.int 0)=(w[0]?).map JK from bax h 0,b5,asu h,b5,comp_map (p:=λb=>.bl (y9 b)) λb ζ=>?_];.cases w with
  |nil=>rfl
  |cons c r=>
   rwa[dm,la];change AK (AI (A7 _ (A7 _ (AA .NotIn (JK c) (.str T6)))) _ ((B3 [.lst _]).map Out.ret))=_;rw[baz,asr,all_map];change _=aa (D.bl (NN c&&_));rw[ux];by_cases q:(c::r).length<=20;.rw[show decide ((20:ak)<_)=ag by lia,show decide ((c::r).length<=bka)=ae from gm q,VS];let hwb:y9 c=(NN c||_):=rfl;rw[hwb];cases NN c<;>rfl
   .rw[show decide ((20:ak)<_)=ae by lia,show decide ((c::r).length<=bka)=ag from gi q,kr,kr];rfl
 .change((A7 (AA .In _ (.str T6)) (A7 (AA .In _ (.str T7)) _)).map aa)=_;rwa[bay,asr,ass,baw,nz];delta y9;grind
noncomputable def run:ab (ab Tr)->ab Bytes->ah (ab Tr)
 |[],_=>af
 |[top],[]=>aa top
 |_::_::_,[]=>af
 |top::j,p::r=>
  if p==[40]then(if j.length+2>41 then af else run ([]::top::j) r)
  else if p==[41]then(match j with
   |[]=>af
   |b::bl=>run ((b++[.list top])::bl) r)
  else match rf p with
   |none=>af
   |some a=>run ((top++[a])::j) r
def aet(top)(j)(p)(r):run (top::j) (p::r)=
 if p==[40]then(if j.length+2>41 then af else run ([]::top::j) r)
 else if p==[41]then(match j with
  |[]=>af
  |b::bl=>run ((b++[.list top])::bl) r)
 else match rf p with
  |none=>af
  |some a=>run ((top++[a])::j) r:=by cases j<;>rw[run]
def ail(f d)(p)(r):oy (f+1) d (p::r)=if p==[41]then aa ([],p::r)
 else if p==[40]then(match d with
  |0=>af
  |d+1=>match oy f d r with
   |some (l,_::s)=>(oy f (d+1) s).map λx=>(.list l::x.1,x.2)
   |_=>af)
 else(rf p).bind λa=>(oy f d r).map λx=>(a::x.1,x.2):=by rfl
def Ends(rest:ab Bytes):Prop:=rest=[]\/∃q,rest=[41]::q
def aim:∀(f d)(ps)(top)(below),ps.length<f->d+below.length=40->
 (oy f d ps=af->run (top::below) ps=af)/\
 (∀l rest,oy f d ps=aa (l,rest)->run (top::below) ps=run ((top++l)::below) rest/\Ends rest/\rest.length<=ps.length)
 |0,_,_,_,_,h,_=>yL
 |f+1,d,[],top,below,_,_=>by
  show⟨λh=>?_,λl rest h=>?_⟩;.rwa[oy]at h;cases h
  .rwa[oy]at h;cases h;erw[ip,⟨rfl,.inl rfl,b8 _⟩]
 |f+1,d,p::r,top,below,hf,hd=>by
  rwa[d6]at hf;let ih:=λd top below h=>aim f d r top below yL h;rw[aet,ail];by_cases c1:(p==[41])=ae;.let e:=eq_of_beq c1;subst e;erw[aj c1,⟨λh=>(by cases h),λl rest h=>?_⟩];cases h;erw[ip,aet,⟨rfl,.inr ⟨r,rfl⟩,b8 _⟩]
  rw[ao c1];by_cases c2:(p==[40])=ae;.rw[aj c2,aj c2];cases d with
   |zero=>erw[aj yL,⟨λζ=>rfl,λl rest h=>(by show nn h)⟩]
   |succ d=>
    rw[ao yL];let⟨i1,i2⟩:=ih d [] (top::below) (by rw[d6];lia);dsimp only;cases hq:oy f d r with
    |none=>show⟨λζ=>i1 hq,λl rest h=>(by show nn h)⟩
    |some lr=>
     let⟨l1,CG⟩:=lr;show d9 (i2 l1 CG hq) λj1 j2 j3=>?_;rwa[qk]at j1;rw[j1];clear hq j1;obtain rfl|⟨q,rfl⟩:=j2;.show⟨λζ=>by rw[run],λl rest h=>(by show nn h)⟩
     .rwa[d6]at j3;erw[aet,xA (aim f (d+1) q (top++[.list l1]) below yL (by omega)) λk1 k2=>?_];dsimp only;show⟨λh=>?_,λl rest h=>?_⟩;.cases hz:oy f (d+1) q<;>walk
      .let⟨⟨x1,x2⟩,hz,e⟩:=bo h;cases e;show d9 (k2 x1 x2 hz) λm1 m2 m3=>⟨?_,m2,by rw[d6];change x2.length<=_;lia⟩;change run ((top++[.list l1])::below) q=_;rw[m1,jl];rfl
  .rw[ao c2,ao c2,ao c1];cases ha:rf p with
   |none=>show⟨λζ=>rfl,λl rest h=>(by show nn h)⟩
   |some a=>
    let⟨i1,i2⟩:=ih d (top++[a]) below hd;dsimp only;rwa[b5];show⟨λh=>?_,λl rest h=>?_⟩;.cases hz:oy f d r<;>grind
    .let⟨⟨x1,x2⟩,hz,e⟩:=bo h;cases e;show d9 (i2 x1 x2 hz) λm1 m2 m3=>⟨?_,m2,by rw[d6];change x2.length<=_;lia⟩;rw[m1,jl];rfl
def ba0(t):VY t=if 4000<t.length then af else run [[]] (VZ t):=by
 change(if axa<t.length then af else _)=if axa<t.length then af else _;by_cases h:axa<t.length;.walk
 .let⟨i1,i2⟩:=aim ((VZ t).length+1) 40 (VZ t) [] [] yL rfl;cases hq:oy _ bkb (VZ t)with
  |none=>rw[i1 hq]
  |some lr=>
   let⟨l,rest⟩:=lr;obtain⟨j1,j2,-⟩:=i2 l rest hq;rw[j1];clear hq j1;obtain rfl|⟨q,rfl⟩:=j2;.rfl
   rfl
def ba1(h:rf p=aa a):BE a=0:=by
 delta rf at h;k_lt h
 .k_lt h;.injection h with h;subst h;rfl
  lia
 .k_lt h;.injection h with h;subst h;rfl
  lia
set_option tactic.hygienic true in
def aeu:∀(f d)(ps)(l)(rest),oy f d ps=aa (l,rest)->CY l<=d
 |0,_,_,_,_,h=>yT
 |f+1,d,[],l,rest,h=>by cases h;simp[CY]
 |f+1,d,p::r,l,rest,h=>by
  rw[ail]at h;k_lt h;.cases h;simp[CY]
  .k_lt h;.cases d with
    |zero=>show nn h
    |succ d=>
     dsimp at h;k_lt h;.ext l1 q s hq;let⟨⟨x1,x2⟩,hz,e⟩:=bo h;clear h;cases e;let h1:=aeu f d r l1 _ hq;let h2:=aeu f _ s x1 x2 hz;change max (CY l1+1) _<=d+1;lia
     .trivial
   .let⟨a,ha,h⟩:=ay h;let⟨⟨x1,x2⟩,hz,e⟩:=bo h;clear h;cases e;let h1:=aeu f d r x1 x2 hz;change max _ _<=d;rw[ba1 ha];lia
set_option tactic.hygienic true in
def ba2(h:rg t=aa x):BE x<=40:=by
 delta rg at h;k_lt h
 .ext y hy;delta VY at hy;k_lt hy;.lia
  .k_lt hy;.ext l hl;let:=aeu _ _ _ _ _ hl;let h2:CY [x]=max _ 0:=rfl;let h3:bkb=40:=rfl;lia
   lia
 lia
end CK
namespace CK
open PySem PySem.Spec PyProof.Rows L2 DL PySem.NumText
noncomputable def dig(w:Bytes):ab Nat:=w.map uz
def acs(b):ox b=ae↔48<=b.toNat/\b.toNat<=57:=by delta ox;rw[cg,ym,ym];rfl
def ba3(h:ox b=ae):sgn b=b.toNat:=by
 let q:=(acs b).mp h;unfold sgn RK;let j:(b==10)=false:=by rw[i8];intro e;walk
 lia
def xi(h:w.all ox=ae):(Tx w).cps.toList=dig w:=jw λb j=>ba3 (mr.mp h b j)
def ain(h:w.all ox=ae):avy (dig w):=by intro c hc;let⟨b,j,rfl⟩:=gx.mp hc;grind[acs]
def val_eq(w):J6 (dig w)=wk w:=by unfold J6 wk dig;grind[List.foldl_map]
def aio(h:oz w=ae):w.all ox=true:=by
 match w,h with
 |[c],h=>grind[oz]
 |c::d::r,h=>grind[oz]
def asw:∀n,n<128->(V0 n).toNat=n:=yD
def ba4(h:avy cs):(cs.map V0).map M6=cs:=by
 rw[el];conv=>rhs;rw[<-aws cs]
 show jw λc hc=>?_;let:=h c hc;grind[asw]
def ba5(h:w.all ox=ae)(hne:w≠[]):((JY 10 (J6 (dig w))).map M6=dig w)↔oz w=true:=by
 let hd:=ain h;rw[toDigits_all _ hd];match w,h,hne,hd with
 |[c],h,_,hd=>
  let hc:=by simpa using h
  show⟨λζ=>hc,λζ=>?_⟩;let hb:=(acs c).mp hc;change wg M6 (match(axb _ [c.toNat])with|[]=>['0']|c::r=>(c::r).map V0)=[c.toNat];by_cases e:c.toNat=48;.rw[e];rfl
  .rw[axc,ao (by erw[qh,e])];change[(V0 c.toNat).toNat]=_;rw[asw _ yL]
 |c::d::r,h,_,hd=>
  rw[ux,cg]at h;change wg M6 (match(axb _ (c.toNat::dig _))with|[]=>['0']|c::r=>(c::r).map V0)=_↔(ox c&&_)=ae;rw[h.1,h.2,oq,VS];by_cases e:c.toNat=48
  .let e2:c=48:=by apply ajr.mp;rw[e];rfl
   rw[axc];constructor;.intro q;exfalso;let hle:(axb (.==48) _).length<=(dig (d::r)).length:=(bkc _).length_le;let hl2:(dig (c::d::r)).length=(dig _).length+1:=rfl;grind[dig]
   .intro q;rw[e2]at q;show cj q yD
  .erw[axc,ao (by erw[qh,e]),⟨λζ=>?_,λζ=>ba4 hd⟩];rw[aj4];intro q;rw[q]at e;show e rfl
def asx:∀(r:Bytes)(a),a*10^r.length<=r.foldl (fun(n)b=>10*n+(b.toNat-48)) a
 |[],a=>yS
 |b::r,a=>by simp[Nat.pow_succ];let h:=asx r (10*a+(b.toNat-48));lia
def asy(h:oz w=ae)(hl:7<w.length):¬wk w<=1000000:=by
 match w,h,hl with
 |c::d::r,h,hl=>rwa[oz,cg,aj4]at h;let j:=(acs c).mp h.1;let hc:c.toNat≠48:=λe=>h.2.1 (by apply ajr.mp;walk);let hg:=asx (d::r) (10*0+(c.toNat-48));let e:wk (c::d::r)=(d::r).foldl _ (10*0+_):=rfl;rw[d6]at hl;let hp:10^7<=10^(d::r).length:=bkd yS yL;let h1:1*10^(d::r).length<=(10*0+(c.toNat-48))*10^(d::r).length:=awx _ yL;lia
def asz:∀(r:Bytes)(a),r.all ox=ae->r.foldl (fun(n)b=>10*n+(b.toNat-48)) a+1<=(a+1)*10^r.length
 |[],a,_=>yS
 |b::r,a,h=>by rwa[ux,cg]at h;let j:=(acs b).mp h.1;let h1:=asz r (10*a+(b.toNat-48)) h.2;let h2:(10*a+(b.toNat-48)+1)*10^r.length<=(10*(a+1))*10^r.length:=awx _ yL;grind
def aip{a b:Str}(h:a.cps.toList=b.cps.toList):a=b:=by let⟨x⟩:=a;walk
def as0(h:n<10^8):((n:ai):ak).natAbs.log2<1920:=by
 rw[Int.natAbs_natCast];by_cases e:n=0;.walk
 .rw[Nat.log2_lt e];omega
def ba6(h:w.length<=aw):TH [.str (Tx w)]=aa (.bl (oz w&&decide (wk w<=1000000))):=by
 change AK _=_;delta ABJ;let e7:(AF (HX [(.int 1000000)]) (aa [])).bind AM=aa (.int 7):=by rfl
 rw[aik h,e7,b5,asu h,b5,comp_map λb ζ=>by rw[show AA .In (JK b) _=aa (.bl (decide (sgn b∈T7.cps.toList)))from rfl,ass];rfl];rwa[dm,dm,xg,la];change AK (AI _ _ (AI (BA (B3 [.lst _])) _ _))=_;rwa[all_map,lm,cx,nz];by_cases q0:w=[];.subst q0;rfl
 let hpos:1<=w.length:=by cases w<;>grind
 rw[show decide _=ag by simp;lia];by_cases q1:7<w.length;.rw[show decide _=ae by simp;lia];cases hd:oz w with
  |false=>rfl
  |true=>rw[gi (asy hd q1)];rfl
 rw[show decide _=ag by simp;lia];cases ha:w.all ox with
 |false=>
  let:oz w=false:=by grind[aio]
  rw[this];rfl
 |true=>
  let hv:=by let:=bke (x:=Tx w) (by erw[xi ha,ain ha]) (by rw[xi ha];delta dig;simpa using q0) (by change(Tx w).cps.size<=_;rw[xh];lia);rw[xi ha]at this;show this
  let hi:IQ [.str (Tx w)]=aa (.int (J6 (dig w):ai)):=by change(if(Tx w).cps.size<=640 then(intText? (Tx w)).map D.int else af)=_;rw[xh,aj yL,hv];rfl
  let hlt:J6 (dig w)<10^8:=by rw[val_eq];let h1:=asz w 0 ha;let h2:(10:ai)^w.length<=10^7:=bkd yD yL;let h5:wk w+1<=(0+1)*10^w.length:=h1;lia
  let hs:HX [.int (J6 (dig w):ai)]=aa (.str (M7 (toString ((J6 (dig w):ai):ak)))):=by change(if _ then _ else _)=_;rw[aj (as0 hlt)]
  let he:decide (M7 (toString ((J6 (dig w):ai):ak))=Tx w)=oz w:=by
   rw[oj,ym,<-ba5 ha q0,<-bhj];constructor;.intro e;rw[e,xi ha]
   .show λe=>aip (by rw[e,xi ha])
  rwa[hi,cv,b5,hs,dm,dm];change AK ((A0 (aa _) (aa (.bl _))).map Out.ret)=_;rw[he,d5,md,val_eq,show decide _=decide (wk w<=1000000)from yx.mpr yL];cases oz w<;>rfl
def ACJ:ah Tr->D
 |some t=>AE t
 |none=>.bj
def aan(h:i4 w=ae):Tx w=S w:=by
 show aip (jw λb j=>(λb=>mf (P:=λb=>y9 b=ae->sgn b=b.toNat) (by decide+kernel) b) b ?_);cases w with
 |nil=>trivial
 |cons c r=>
  rwa[i4,cg]at h;obtain rfl|j:=df.mp j;.delta y9;rw[h.1];rfl
  walk
def ba7(h:i4 w=ae):oz w=false:=by
 cases hd:oz w with
 |false=>rfl
 |true=>
  let ha:=aio hd;cases w with
  |nil=>trivial
  |cons c r=>simp[i4]at h;let:=λb=>mf (P:=λb=>NN b=ae->ox b=ae->il) (by decide+kernel) b;walk
def ba8(h:w.length<=aw):LO [.str (Tx w)]=aa (ACJ (rf w)):=by
 change AK (AI _ _ _)=_;rw[asv h,ba6 h,cx,cx];delta rf;cases hw:i4 w with
 |true=>rw[ba7 hw,aj rfl,aan hw];rfl
 |false=>
  cases hd:oz w with
  |false=>rfl
  |true=>
   by_cases hv:wk w<=1000000
   .rw[gm hv,aj (show(ae&&ae)=ae from rfl),aj rfl,aj (show wk w<=bkf from hv)];let ha:=aio hd;let hl:w.length<=7:=by grind[asy]
    let hi:=by let:=bke (by erw[xi ha,ain ha]) (by rw[xi ha];delta dig;simpa using(λe=>by rw[e]at hd;trivial)) (by change(Tx w).cps.size<=_;rw[xh];lia);rw[xi ha]at this;omega
    change AK ((if(Tx w).cps.size<=640 then(intText? _).map D.int else af).map Out.ret)=_;rw[d5,xh,aj yL,hi,val_eq];rfl
   .rw[gi hv,ao (show¬_=ae by simp),aj rfl,ao (show¬wk w<=bkf from hv)];rfl
end CK
namespace CK
open PySem PySem.Spec PyProof.Rows L2 DL
def B7(l:ab ai):D:=.tup (l.map λn:ai=>D.int (n:ak))
def AX(l:ab (ab ai)):D:=.lst (l.map B7)
def xj{T:gj}(h:T.hasCols cs=ae):GU T.cols cs:=λx j=>mr.mp h x j
def vy(hr:r.length=T.cols.length)(hc:GU T.cols cs)(C:BM d=aa (BK cs)):C3 [BF T,AY r,d]=aa (AY (f9 T cs r)):=by change AK _=_;delta ABK;rw[b5,C,b5,acr];delta BK;rw[comp_map λc h=>by rw[aia hr (hc c h)];rfl];change aa _=aa (D.tup ((cs.map _).map BX));simp
def GW(T:gj):Prop:=∀r,r∈T.rows->wa r=T.cols.length
def aiq(h:i<T.count):AG AB (A8 FL "rows" (aa (BF T))) (aa (.int (i:ai)))=aa (AY (T.row i)):=by change BQ _ i=_;rw[p8,i9,gz h];change aa _=aa (AY (T.rows.getD i []));rw[yh,gz h];rfl
def aev(A:GW T)(h:i<T.count):(T.row i).length=T.cols.length:=by show A _ ?_;change T.rows.getD i []∈T.rows;rw[yh,gz h];grind
noncomputable def brk(T:gj)(k:y8)(i j:ai):Bool:=match k with
 |.each _ c=>!(c.holds T.cols (T.row i) (T.row j))
 |.pairs _ c=>!(c.holds T.cols (T.row i) (T.row j))
 |.next _ c=>!(c.holds T.cols (T.row i) (T.row j))
 |.key _ cs=>qt T cs (T.row i) (T.row j)
 |.fixes _ cs ds=>qt T cs (T.row i) (T.row j)&&!(qt T ds (T.row i) (T.row j))
 |_=>ag
def EJ:y8->a4
 |.any _ _=>ag
 |.refers _ _ _ _=>ag
 |.groups _ _ _ _ _=>ag
 |_=>ae
def air(a b):AA .NotEq (AY a) (AY b)=aa (.bl (!(a==b))):=by change(C9 _ _).map _=_;simp[age]
section
variable(A:GW T)(C:BE t<42)(h:ku t=aa k)(B:EJ k=ae)
include A C h B
def as1(hc:T.hasCols (C5 k)=ae)(hi:i<T.count)(hj:j<T.count)
 (d0:AB d (.int 0)=aa (.int (i:ai)))(d1:AB d (.int (-1))=aa (.int (j:ai))):OR [AE t,BF T,d]=aa (.bl (brk T k i j)):=by
 change AK _=_;delta ABN;rwa[d0,d1,aiq hi,b5,aiq hj,b5,acr];let ei:=aev A hi;let ej:=aev A hj;obtain⟨n,x⟩|⟨n,x⟩|⟨n,x⟩|⟨n,x⟩|⟨n,cs⟩|⟨n,cs,ds⟩|⟨n,cs,u,ds⟩|⟨n,cs,a,lo,up_⟩:=k<;>(first|let⟨c,rfl,hx⟩:=jv h|let⟨rfl,q1,q2⟩:=jv h|subst jv h);rotate_left;.show nb B
 rotate_right;iterate 3·change AK ((BA (FO 42 [AE c,C4 T.cols,AY (T.row i),AY (T.row j)])).map Out.ret)=_;rw[arx ei ej 42 c x (JW (aad yS) C) (b8 _) hx (xj hc)];rfl
 .let w1:BM (.tup (AV (cs.map er)))=aa (BK cs):=by rw[n9];rfl
  let hc1:=xj (cs:=cs) hc;change AK (AI (AG (AA .NotEq) (C3 [BF T,AY (T.row i),.tup _]) (C3 [BF T,AY (T.row j),.tup (AV (cs.map er))])) (aa (.ret (.bl ag))) (aa (.ret (.bl ae))))=_;rwa[vy ei hc1 w1,vy ej hc1 w1,dm,air,cx];change _=aa (D.bl (f9 T cs (T.row i)==f9 T cs (T.row j)));cases(f9 T cs (T.row i)==f9 T cs (T.row j))<;>rfl
 .let w1:BM (.tup (AV (cs.map er)))=aa (BK cs):=by rw[n9];rfl
  let w2:BM (.tup (AV (ds.map er)))=aa (BK ds):=by rw[n9];rfl
  let hc':T.hasCols (cs++ds)=true:=hc;rw[aer,cg]at hc';let hc1:=xj hc'.1;let hc2:=xj hc'.2;change AK (AI (AG (AA .NotEq) (C3 [BF T,AY (T.row i),.tup (AV (cs.map er))]) (C3 [BF T,AY (T.row j),.tup _])) (aa (.ret (.bl ag)))
   ((AG (AA .NotEq) (C3 [BF T,AY (T.row i),.tup (AV (ds.map er))]) (C3 [BF T,AY (T.row j),.tup (AV (ds.map er))])).map Out.ret))=_;rwa[vy ei hc1 w1,vy ej hc1 w1,vy ei hc2 w2,vy ej hc2 w2,dm,dm,air,air,cx];change _=aa (D.bl ((f9 T cs (T.row i)==f9 T cs (T.row j))&&!_));cases(f9 T cs (T.row i)==f9 T cs (T.row j))<;>rfl
 .show nb B
 .show nb B
def Small(n:ai)(b:ab ai):Prop:=(∃i,i<n/\b=[i])\/(∃i j,i<n/\j<n/\b=[i,j])
def DR(T:gj)(k:y8)(b:ab ai):Bool:=brk T k (b.headD 0) (b.getLastD 0)
def ba9(hc:T.hasCols (C5 k)=ae)(q:Small T.count b):
 OR [AE t,BF T,B7 b]=aa (.bl (DR T k b)):=by
 obtain⟨i,hi,rfl⟩|⟨i,j,hi,W,rfl⟩:=q;.show as1 A C h B hc hi hi rfl rfl
 .show as1 A C h B hc hi W rfl rfl
def ais(hc:T.hasCols (C5 k)=ae)(hl:∀b,b∈l->Small T.count b):
 HB [AE t,BF T,AX l]=aa (AX (l.filter (DR T k))):=by change AK (((A6 _ _).map D.lst).map Out.ret)=_;rw[d5,acg (q:=DR T k) (p:=B7) λb j=>by grind[ba9,cx]];rfl
end
def as2:∀(n)(a:ai),EE a n=(u9 a n).map λi:ai=>D.int i
 |0,_=>rfl
 |n+1,a=>by rw[EE,aj8];let:=as2 n (a+1);walk
def range_items(h:n<=1000000):RW (aa (.int (n:ai)))=aa ((e6 n).map λi:ai=>D.int i):=by erw[V1,<-as2 n 0,aj ⟨yL,yL⟩]
def DS(w:Bytes)(n:ai):ab (ab ai):=if w==J4 then[[n]]else if w==J5 then(if 0<n then[[n-1,n]]else[])else(e6 n).map λi=>[i,n]
def as3(w)(h:n<=1000000):JF [.str (S w),.int (n+1:ai)]=aa (AX (DS w n)):=by
 change AK _=_;delta ABO;let e0:E1 (.int (n+1:ai)) (.int 1)=aa (.int n):=by change aa _=_;lia
 rw[e0,b5,show AA .Eq (.str _) (.str "each")=aa (.bl _)from aab (.word w) J4,show AA .Eq (.str _) (.str "next")=aa (.bl _)from aab (.word w) J5,cx,cx,range_items h];delta DS;change AK (if(w==J4)=ae then _ else if(w==J5)=ae then _ else _)=_;cases(w==J4)with
 |true=>rfl
 |false=>
  cases(w==J5)with
  |true=>
   simp[jk];rw[la,cx];by_cases q:0<n
   .rw[aj q,aj (by simp;omega)];let:E1 (.int n) (.int 1)=aa (.int (n-1:ai)):=by change aa _=_;lia
    rw[this];rfl
   .rw[ao q,ao (by simp;lia)];rfl
  |false=>rwa[U3,yg];rw[b5,comp_map λi ζ=>rfl];change aa _=aa (D.lst _);rw[el];rfl
def bba(b)(i:ai):OS [B7 b,.int i]=aa (B7 (b.map (iw i))):=by
 change AK (((AF ((A6 _ _).map D.lst) _).bind IP).map Out.ret)=_;rw[d5,comp_map (p:=λn=>D.int (iw i n)) λn ζ=>?_];.change aa _=aa (D.tup _);simp
 .rw[la,cx];delta iw;by_cases q:i<n;.rw[aj yA];change aa _=_;lia
  grind
def as4(h:ku t=aa k)(x):LP [AE t,.str (S x)]=aa (.bl (k.tables.contains x)):=by
 let j:∀n:Bytes,AA .Eq _ (.str (S x))=aa (.bl (n==x)):=λn=>aab (.word n) x;let q:∀n:Bytes,[n].contains x=(n==x):=λn=>by grind
 obtain⟨n,y⟩|⟨n,y⟩|⟨n,y⟩|⟨n,y⟩|⟨n,cs⟩|⟨n,cs,ds⟩|⟨n,cs,u,ds⟩|⟨n,cs,a,lo,W⟩:=k<;>(first|let⟨c,rfl,hx⟩:=jv h|let⟨rfl,q1,q2⟩:=jv h);case refers=>change AK ((A7 (AA .Eq _ _) (AA .Eq (AE (.word u)) (.str (S x)))).map Out.ret)=_;rw[j,j,d5,nz];change _=aa (D.bl ([n,u].contains x));rw[bkg,q,ajs];cases(x==n)<;>rfl
 all_goals change AK ((A7 (AA .Eq _ _) (aa (.bl ag))).map Out.ret)=_;rwa[j,d5,nz];change _=aa (D.bl ([n].contains x));rw[q];cases(n==x)<;>rfl
end CK
namespace CK
open PySem PySem.Spec PyProof.Rows L2 DL TL PySem.StrLaws PySem.Builtin PySem.Builtin.Str
def as5(x y z)(hy:tl y≠[]):tl (su x y z)=HR (tl z) (CF (tl y) 0 [] (tl x)):=by
 show au (occ_tight x y (am8 hy)) λf g hn=>?_;let key:=a1c hy _ 0 f (gv _) g hn;rw[List.drop_zero]at key;let y0:(y.length==0&&z.length==0)=false:=by grind[am8]
 delta su;rw[y0,yd];by_cases h2:(aww x y 0 x.length (x.length+1)).isEmpty=ae;.rw[aj h2];rw[(aw2.mp h2)]at key;rw[<-key];change tl x=HR _ [tl _];rw[sub_whole];rfl
 .rw[ao h2,partsBetween_eq,<-key,bhi z _,af8]
def ait(S):∀(k)(acc l),CF S k acc l≠[]
 |k,acc,[]=>by simp[am1]
 |0,acc,c::r=>by
  delta CF;split;.simp
  .show ait S 0 _ r
 |k+1,acc,_::r=>ait S k acc r
def MD(c:ai)(Z:ab ai)(a:ai):ab Nat:=if a=c then Z else[a]
def aew(c)(Z):∀(l acc),HR Z (CF [c] 0 acc l)=acc++l.flatMap (MD c Z)
 |[],acc=>by change acc=acc++[];simp
 |a::r,acc=>by
  by_cases h:a=c;.subst h;rw[am2 (show pre [a] (a::r)=ae from a07 [a] r)];change HR Z (acc::CF [a] 0 [] r)=_;let ih:=aew a Z r [];cases e:CF [a] 0 [] r with
   |nil=>grind[ait]
   |cons p q=>rw[e]at ih;change acc++_=_;rw[ih,tj,qk,show MD a Z a=Z from aj rfl]
  .rw[am3 (a06 [] r h),aew c Z r,tj,show MD c Z a=[a]from ao h,jl]
noncomputable def ex(b:NM):ab Nat:=if b==40 then[32,40,32]else if b==41 then[32,41,32]else[sgn b]
def bbb(b):(MD 40 [32,40,32] (sgn b)).flatMap (MD 41 [32,41,32])=ex b:=
 mf (P:=λb=>(MD 40 [32,40,32] _).flatMap _=ex b) (by decide+kernel) b
def bbc(bs):tl (su (su (Tx bs) "(" " ( ") ")" " ) ")=bs.flatMap ex:=by
 rw[as5 _ _ _ yD,as5 _ _ _ yD,show tl ")"=[41]from rfl,show tl "("=[40]from rfl,show tl " ( "=[32,40,32]from rfl,show tl " ) "=[32,41,32]from rfl,aew,aew,qk,qk,show tl _=bs.map sgn from rfl];induction bs with
 |nil=>rfl
 |cons b r j=>grind[bbb]
def bbd:QR 32=true:=rfl
def aiu(j):DX (j,[]) 32=(j,[]):=by rfl
def as6(j)(h:u≠[]):DX (j,u) 32=(j++[u],[]):=by simp_all[DX,bbd]
def bbe(b):kh b=ae->ex b=[sgn b]/\33<=sgn b/\sgn b<=126:=
 mf (P:=λb=>kh b=ae->ex b=[sgn b]/\33<=sgn b/\sgn b<=126) (by decide+kernel) b
def bbf(b):kh b=ag->∃t,ex b=32::t:=λh=>by let:=mf (P:=λb=>kh b=ag->(ex b).head?=aa 32) (by decide+kernel) b;cases q:ex b<;>grind
def bbg(b):axd b=ae->ex b=[32]:=mf (P:=λb=>axd b=ae->ex b=[32]) (by decide+kernel) b
def bbh(b):(b==40||b==41)=ae->ex b=[32,b.toNat,32]/\sgn b=b.toNat/\33<=b.toNat/\b.toNat<=126:=mf (P:=λb=>(b==40||b==41)=ae->ex b=[32,b.toNat,32]/\sgn b=b.toNat/\33<=b.toNat/\b.toNat<=126) (by decide+kernel) b
def as7:∀l:Bytes,l.all kh=ae->l.flatMap ex=l.map sgn/\∀c∈l.map sgn,QR c=ag
 |[],_=>⟨rfl,λc h=>nomatch h⟩
 |b::r,h=>by rwa[ux,cg]at h;let⟨j,q⟩:=as7 r h.2;grind[bbe,anf]
def bbi:∀l:Bytes,(l.takeWhile p).all p=ae
 |[]=>rfl
 |a::r=>by simp
def aex:∀(f)(bs)(ws),bs.length<=f->G0 ((bs.flatMap ex).foldl DX (ws,[]))=ws++(Q6 f bs).map (wg sgn)
 |0,bs,ws,h=>by let:bs=[]:=bhl.mp yL;subst this;change G0 (ws,[])=ws++[];rw[ip];rfl
 |f+1,[],ws,_=>by change G0 (ws,[])=ws++[];rw[ip];rfl
 |f+1,c::r,ws,h=>by
  rwa[d6]at h;delta Q6;by_cases h1:axd c=ae;.erw[aj h1,tj,bbg c h1,List.singleton_append,U5,aiu,aex f r ws yL]
  .rw[ao h1];by_cases h2:(c==40||c==41)=ae;.show ly (bbh c h2) λk1 k2 k3 k4=>?_;rw[aj h2,tj,k1];change G0 (((c.toNat::32::r.flatMap ex)).foldl DX _)=_;rw[aiu,U5,show DX (ws,[]) c.toNat=(ws,[c.toNat])from ao (by erw[anf k3 k4,gy]),U5,as6 _ yS,aex f r _ yL,jl,b9];change _=ws++([sgn c]::_);rw[k2];rfl
   .let h3:kh c=true:=by delta kh;grind
    rw[ao h2];let ha:(c::r.takeWhile kh).all kh=true:=by rw[ux,h3,bbi];rfl
    let⟨j1,j2⟩:=as7 _ ha;let hsplit:c::r=(c::r.takeWhile kh)++r.dropWhile kh:=by rw[awr,List.takeWhile_append_dropWhile]
    let hlen:(r.dropWhile kh).length<=f:=by grind
    let ih:=aex f _ (ws++[(c::r.takeWhile kh).map sgn]) hlen;rwa[hsplit,List.flatMap_append,j1,List.foldl_append,ane _ ws [] j2,qk];let fin:G0 (((r.dropWhile kh).flatMap ex).foldl DX (ws,(c::r.takeWhile kh).map sgn))=G0 (((r.dropWhile kh).flatMap ex).foldl DX (ws++[(c::r.takeWhile kh).map sgn],[])):=by
     cases e:r.dropWhile kh with
     |nil=>show ao yS
     |cons d q=>grind[List.head?_dropWhile_not,bbf,U5,as6,aiu]
    rw[fin,ih,jl];rfl
def bbj(bs):HE (Tx bs)=(VZ bs).map Tx:=by show am0 ?_;delta HE;simp[a1j,bbc,aex bs.length bs [] (b8 _),el];rfl
end CK
namespace CK
open PySem PySem.Spec PyProof.Rows L2 DL
def bbk(t p)(j)(X Y Z):GP p [.val t,.gg j,X,Y,Z]=
 AI (AA .Eq p (.str "("))
  (if decide (j.length<aw)=ae then AI (AG (AA .Gt) (AM [.lst ((j++[[]]).map D.lst)]) (aa (.int 41))) (aa (.ret .bj)) (aa (.next [.val t,.gg (j++[[]]),.val p,Y,Z]))else af)
  (AI (AA .Eq p (.str ")"))
    ((j.getLast?).bind λl=>AI (AG (AA .Eq) (AM [.lst (j.dropLast.map D.lst)]) (aa (.int 0))) (aa (.ret .bj))
     ((j.dropLast.getLast?).bind λq=>if q.length<aw then aa (.next [.val t,.gg (j.dropLast.dropLast++[q++[.tup l]]),.val p,.val (.lst l),Z])else af))
    ((LO [p]).bind λd=>AI (AA .Is d .bj) (aa (.ret .bj)) ((j.getLast?).bind λq=>if q.length<aw then aa (.next [.val t,.gg (j.dropLast++[q++[d]]),.val p,Y,.val d])else af))):=by rfl
def bbl(t)(j)(X Y Z):IG [.val t,.gg j,X,Y,Z]=
 (AI (AG (AA .Eq) (AM [.lst (j.map D.lst)]) (aa (.int 1))) (AB (.lst (j.map D.lst)) (.int 0)) (aa .bj)).map Out.ret:=by rfl
def GY(st:ab (ab Tr)):ab (ab D):=(st.map AV).reverse
noncomputable def rdD:ah (ab Tr)->D
 |none=>.bj
 |some l=>.lst (AV l)
def as8(p)(b)(q:∀c:NM,sgn c=b.toNat->c=b)(W:sgn b=b.toNat)(y)(j:y.cps.toList=[b.toNat]):AA .Eq (.str (Tx p)) (.str y)=aa (.bl (p==[b])):=by
 change aa _=_;congr 2;rw[oj,tq];constructor
 .intro h;let e:p.map sgn=[b.toNat]:=by rw[<-aes,h,j]
  cases p<;>walk
 grind[aip,aes]
def bbm(p):AA .Eq (.str (Tx p)) (.str "(")=aa (.bl (p==[40])):=
 as8 p 40 (λc=>mf (P:=λc=>sgn c=40->c=40) (by decide+kernel) c) (by rfl) _ rfl
def bbn(p):AA .Eq (.str (Tx p)) (.str ")")=aa (.bl (p==[41])):=
 as8 p 41 (λc=>mf (P:=λc=>sgn c=41->c=41) (by decide+kernel) c) (by rfl) _ rfl
def oa(l):AM [.lst l]=aa (.int l.length):=rfl
def as9(l)(t):AV (l++[t])=AV l++[AE t]:=by simp[nv]
def abj(a)(st):GY (a::st)=GY st++[AV a]:=by simp[GY]
def aey(st):(GY st).length=st.length:=by simp[GY]
def bbo(a):AA .Is (ACJ a) .bj=aa (.bl a.isNone):=by
 cases a with
 |none=>rfl
 |some t=>cases t<;>rfl
def bbp(t):∀(ps)(top)(below)(X Y Z),(∀p,p∈ps->p.length<=aw)->(∀l,l∈top::below->l.length+ps.length<aw)->below.length+1+ps.length<aw->
 BO (AU GP (ps.map λp=>.str (Tx p)) [.val t,.gg (GY (top::below)),X,Y,Z]) IG=aa (.ret (rdD (run (top::below) ps))):=by
 intro ps;induction ps with
 |nil=>intro top below X Y Z _ _ _;change IG [.val t,.gg (GY (top::below)),X,Y,Z]=_;rwa[bbl,oa,bt,aey,dm,vt,cx];cases below<;>rfl
 |cons p ps I=>
  intro top below X Y Z hp hl hb;rw[d6]at hb;let hl':∀l,l∈top::below->l.length+(ps.length+1)<sizeLine:=hl;let hp':∀q,q∈ps->q.length<=sizeLine:=λq hq=>hp q (dj _ hq);let hpl:=hp p (d7 ..);let ht:=hl' top (d7 ..);let gl:(GY (top::below)).getLast?=aa (AV top):=by rw[abj,axe]
  let dl:(GY (top::below)).dropLast=GY below:=by rw[abj,awo]
  let tl:(AV top).length<sizeLine:=by rw[aee];lia
  rw[b9,AU,bbk,bbm,bbn,cx,cx,aet];by_cases c1:(p==[40])=ae
  .rw[aj c1,aj c1,aj (by rw[aey];simp;lia),oa,bt,e9,aey,dm,la,cx];by_cases c2:below.length+2>41;.rw[aj c2,aj (by simp;lia)];rfl
   .rw[ao c2,ao (by simp;lia)];let:=I [] (top::below) (.val (.str (Tx p))) Y Z hp' (λl h=>by
     obtain rfl|h:=df.mp h;.simp;lia
     .let:=hl' l h;lia) (by rw[d6];lia);rw[abj [] (top::below)]at this;show this
  .rw[ao c1,ao c1];by_cases c2:(p==[41])=ae;.rw[aj c2,aj c2,gl,dl,b5,oa,bt,aey,dm,vt,cx];clear dl gl hl;cases below with
    |nil=>rfl
    |cons b bl=>
     let hb2:=hl' b yS;rw[ao (by simp;lia),abj b bl,axe,awo,b5,aj (by rw[aee];lia)];let:=I (b++[.list top]) bl (.val (.str (Tx p))) (.val (.lst (AV top))) Z hp' (λl h=>by
      obtain rfl|h:=df.mp h;.rw[e9,qr];lia
      .let:=hl' l (by simp[h]);lia) (by rw[d6]at hb;lia);rw[abj (b++_) bl,as9]at this;show this
   .rw[ao c2,ao c2,ba8 hpl,b5,bbo,cx];cases ha:rf p with
    |none=>rfl
    |some a=>
     rw[ao yS,gl,dl,b5,aj tl];let:=I (top++[a]) below (.val (.str (Tx p))) Y (.val (AE a)) hp' (λl h=>by
      obtain rfl|h:=df.mp h;.rw[e9,qr];lia
      .let:=hl' l (by simp[h]);lia) yL;rw[abj (top++_) below,as9]at this;show this
def acu:∀(f)(bs),(Q6 f bs).length<=bs.length/\∀p,p∈Q6 f bs->p.length<=bs.length
 |0,bs=>⟨gv _,λp h=>nomatch h⟩
 |f+1,[]=>⟨gv _,λp h=>nomatch h⟩
 |f+1,c::r=>by
  delta Q6;split;.let⟨h1,h2⟩:=acu f r;grind
  .split;.let⟨h1,h2⟩:=acu f r;grind
   .let⟨h1,h2⟩:=acu f (r.dropWhile kh);grind[bkc,List.takeWhile_sublist]
def f6:aw=16777216:=yD
def bbq(bs)(h:bs.length<=aw):O6 [.str (Tx bs)]=aa (rdD (VY bs)):=by
 let hx:(Tx bs).length=bs.length:=xh bs;change(if 4000<(Tx bs).length then(if(Tx bs).length<=aw then aa D.bj else af)else AK _)=_;rw[hx,ba0];by_cases q:4000<bs.length;.rw[aj q,aj q,aj h];rfl
 .rw[ao q,ao q,bbj,el];let⟨k1,k2⟩:=acu bs.length bs;let e:=f6;let:=bbp (.str (Tx bs)) _ [] [] .no .no .no (λp hp=>by let:=k2 p hp;lia) (λl hl=>by grind) (by grind);show eh AK this
def PK:ah Tr->D
 |none=>.bj
 |some t=>AE t
def aiv(bs)(h:bs.length<=aw):HF [.str (Tx bs)]=aa (PK (rg bs)):=by
 change AK _=_;delta AB6;rw[bbq bs h];delta rg;cases VY bs with
 |none=>rfl
 |some l=>
  match l with
  |[]=>rfl
  |[x]=>rfl
  |x::y::r=>rfl
end CK
namespace CK
open PySem PySem.Spec PyProof.Rows L2 DL TL
def FW:Stmt->Expr
 |.For _ j _ _ _=>j
 |_=>.Constant .none 0 ⟨0,0,0,0⟩
def ACK:Stmt->Pos
 |.For _ _ _ _ p=>p
 |_=>⟨0,0,0,0⟩
def aez(Γ)(sc)(n)(ξ)(st)(r)(k):BP Γ sc (n+1) ξ (st::r) k=stK Γ sc n (BP Γ sc n) ξ st λξ'=>BP Γ sc n ξ' r k:=rfl
def bbr(Γ)(sc)(n)(ξ)(st)(k)(q:st=.For (HK st) (FW st) (YK st) [] (ACK st))(W:IZ sc Γ.N ξ (FW st)=af)(hn:(IA (FW st)&&GJ Γ.fi (HK st))=ae):
 stK Γ sc n (BP Γ sc n) ξ st k=(KZ sc (A9 Γ n ae sc (vals (AN Γ.N (AL (FW st)) ξ))) (HK st) (FW st)).bind λj=>BO (AU (D3 Γ sc n st) j (AN Γ.N (AL (FW st)) ξ)) k:=by
 rw[q];change(match IZ sc Γ.N ξ (FW st)with
  |some p=>if GJ Γ.fi (HK st)then(CG _).bind k else af
  |none=>LA Γ sc n _ ξ _ _ _ k)=_;rw[W];delta LA;rw[aj hn];rfl
noncomputable def tG:DL.Ctx:=X8.c
noncomputable def tS(i:ai):Stmt:=D9 (BC (top 59)) i
def T8:D->ab Sl->ah Out:=D3 tG (AO (top 59)) 22 (tS 1)
def YN(ξ:ab Sl):ah Out:=BP tG (AO (top 59)) 22 ξ ((BC (top 59)).drop 2) (λj=>af)
def bbs(d)(r)(k):stK tG (AO (top 59)) 23 r [.val d,.no,.no,.no] (tS 0) k=k [.val d,.ij [.inl 10] [.str " "],.no,.no]:=by rfl
def T9:ab Nat:=(" ()-.0123456789ABCDEFGHIJKLMNOPQRSTUVWXYZabcdefghijklmnopqrstuvwxyz":Str).cps.toList
def bbt(d):KZ (AO (top 59)) (A9 tG 22 ae (AO (top 59)) (vals (AN tG.N (AL (FW (tS 1))) [.val d,.ij [.inl 10] [.str " "],.no,.no]))) (HK (tS 1)) (FW (tS 1))=aa (T9.map λc=>.str ⟨#[c]⟩):=by rfl
def bbu(d):X9 d=BO (AU T8 (T9.map λc=>.str ⟨#[c]⟩) [.val d,.ij [.inl 10] [.str " "],.no,.no]) YN:=by change BP tG _ _ [.val d,.no,.no,.no] (tS 0::tS 1::(BC (top 59)).drop 2) _=_;rw[aez,bbs,show(23)=22+1 from rfl,aez,bbr tG _ 22 _ _ _ rfl rfl rfl,bbt,b5];rfl
def bbv(n)(ks)(l)(x)(X Y):T8 (.str x) [.val n,.ij ks l,X,Y]=((N7 [.str x]).bind keyOf).bind λj=>if ks.length<aw then aa (.next [.val n,.ij (D1 ks j) (E4 ks l j (.str x)),.val (.str x),Y])else none:=by rfl
def bbw(n)(ks)(l)(X Y):YN [.val n,.ij ks l,X,Y]=(K2 "join" (aa (.str "")) (AF ((BM n).bind λj=>(A6 (λx=>(K2 "get" (aa (.d8 ks l)) (aa [x,.str "?"])).map aa) j).map D.lst) (aa []))).map Out.ret:=by rfl
def UA(p:ab Key×ab D)(c:ai):ab Key×ab D:=(D1 p.1 (.inl (c:ak)),E4 p.1 p.2 (.inl (c:ak)) (.str ⟨#[c]⟩))
def bbx(ks)(k):(D1 ks k).length<=ks.length+1:=by delta D1;grind
def ata(n):∀(cs:ab ai)(p)(X Y),p.1.length+cs.length<aw->∃j,AU T8 (cs.map λc=>.str ⟨#[c]⟩) [.val n,.ij p.1 p.2,X,Y]=aa (.next [.val n,.ij (cs.foldl UA p).1 (cs.foldl UA p).2,j,Y])
 |[],p,X,Y,_=>⟨X,rfl⟩
 |c::cs,p,X,Y,h=>by
  simp[d6]at h;let:=bbx p.1 (.inl c);let⟨j,e⟩:=ata n cs (UA p c) _ Y (by change(D1 p.1 _).length+cs.length<_;lia);show⟨j,?_⟩;rw[b9,AU,bbv];change(match(if p.1.length<aw then aa (Out.next [.val n,.ij _ _,.val _,Y])else af)with
   |some (.next ξ')=>AU T8 _ ξ'
   |some (.ret r)=>aa _
   |none=>af)=_;erw[aj yL,e]
def YO(d:D)(c:ai):Bool:=match d with
 |.str x=>decide (x=⟨#[c]⟩)
 |_=>ag
def bby(h:YO d c=ae):d=.str ⟨#[c]⟩:=by delta YO at h;lia
def DD:ab Key×ab D:=T9.foldl UA ([.inl 10],[.str " "])
def bbz:∀n:ai,n<256->YO ((CT DD.1 DD.2 (.inl n)).getD (.str "?")) (sgn (VX n))=true:=by decide+kernel
def atb:∀ps,HR [] ps=ps.flatten
 |[]=>rfl
 |[p]=>by change p=p++[];simp
 |p::q::r=>by change p++_=p++(q::r).flatten;rw[atb _];rfl
def bb0(cs:ab ai):JX "" (cs.map λc=>⟨#[c]⟩)=⟨cs.toArray⟩:=by show aa0 ?_;rw[join_eq,af8,show tl ""=[]from rfl,atb];induction cs<;>grind
def bb1{j:Type}(l:ab j):(l.map λq=>1).sum=l.length:=by induction l<;>grind
def bb2(hz:∀z,z∈zs->0<=z/\z<=255)(hl:zs.length<=16000000):TK [.lst (zs.map D.int)]=aa (.str (Tx (i5 zs))):=by
 change AK (X9 (.lst (zs.map D.int)))=_;let e:=f6;let⟨q,W⟩:=ata (.lst (zs.map D.int)) T9 ([.inl 10],[.str " "]) .no .no (by rw[e];decide);rw[bbu,W];change AK (YN [.val (.lst (zs.map D.int)),.ij DD.1 DD.2,q,.no])=_;rw[bbw,d5];change K2 "join" (aa (.str "")) (AF ((A6 _ (zs.map D.int)).map D.lst) (aa []))=_;rw[comp_map λz j=>?_];.change(strsOf _).bind (λys=>if(ys.map (·.length)).sum+ys.length*0<=16777216 then aa (D.str (JX "" ys))else af)=_;rw[show(zs.map λz:ak=>D.str ⟨#[sgn (VX z.toNat)]⟩)=((zs.map λz=>sgn (VX z.toNat)).map λc=>(⟨#[c]⟩:Str)).map D.str by rw[el,el];rfl,adv,b5,bb0,el];rw[aj (by rw[show((λx:Str=>x.length)∘λc:ai=>(⟨#[c]⟩:Str))=λζ=>1 from rfl,bb1,bt];lia)];unfold Tx i5;rw[el];rfl
 .let⟨h1,h2⟩:=hz z j;let k:=bby (bbz z.toNat yL);rw[bkh h1]at k;change aa (aa ((CT DD.1 DD.2 (.inl z)).getD (.str "?")))=_;rw[k]
def bb3(x)(h:x.cps.size<=aw):TM [.str x]=aa (.lst ((tl x).map λc=>D.int (c:ai))):=by change AK (((BM (.str x)).bind λj=>(A6 _ j).map D.lst).map Out.ret)=_;rw[d5,show BM (.str x)=aa (x.cps.toList.map λc=>.str ⟨#[c]⟩)from aj h,b5,comp_map λc q=>rfl];rfl
def bb4(w)(j:ab Bytes):((j.map S).any λy=>decide (y=S w))=j.contains w:=by rw[U2,List.contains_eq_any_beq];change(j.any λy=>decide _)=_;simp[aed,BEq.comm]
def atc:∀j,JH (j.map S)=ou j
 |[]=>rfl
 |w::j=>by rwa[b9,JH,ou,bb4,atc j]
def atd(d)(j)(hd:F5 (aa d)=aa (BK j))(hl:j.length<4000):HD [d]=aa (.bl (ou j)):=by delta HD;dsimp;rw[hd,b5,show BK j=(j.map S).map D.str by simp[BK],adv];grind[atc]
def bb5(c):AB (EI c) (.int 0)=aa (.str (S c.name)):=by change AB (.tup (AV (.word c.name::_))) _=_;rw[aqi];rfl
def bb6(c):AB (EI c) (.int 1)=aa (AE c.kind.tree):=by change AB (.tup _) (.int (1:ai))=_;rw[ny];rfl
def YQ:VW->Prop
 |.up _=>True
 |.of_ j=>j.length<=10
def bb7(k)(q:YQ k):(AF (BZ (aa (AE k.tree)) (aa (aa (.int 1))) af) (aa [])).bind HD=aa (.bl k.twice):=by
 cases k with
 |up n=>rfl
 |of_ j=>change(AF (BZ (aa (.tup (.str _::AV _))) _ af) _).bind HD=_;erw[aa7,n9,cv,b5,atd _ j rfl (by let:j.length<=10:=q;lia)]
def bb8(hl:cs.length<4000)(j:∀c,c∈cs->YQ c.kind):TR [CZ cs]=aa (.bl (ou (cs.map λc=>c.name)||cs.any λc=>c.kind.twice)):=by
 change AK (AI ((AF ((A6 _ _).map D.lst) _).bind HD) _
  (((AF ((A6 _ _).map D.lst) _).bind anyF).map Out.ret))=_;rw[comp_map λc q=>by rw[bb5];rfl,comp_map λc hc=>by rw[bb6,bb7 _ (j c hc)];rfl,j4,cv,b5,atd _ _ (by delta BK;rw[el];rfl) yA,cx,j4,cv,b5,any_map];cases ou _<;>rfl
def bb9:∀(cs:ab mw)(i:ai)(ks)(l),ou (cs.map λc=>c.name)=ag->(∀c,c∈cs->.inr (S c.name)∉ks)->
 GB i (cs.map EI) ks l=aa (.d8 (ks++cs.map λc=>.inr (S c.name)) (l++MA i cs.length)):=by
 intro cs;induction cs with
 |nil=>intro i ks l _ _;change aa (D.d8 ks l)=aa (.d8 (ks++[]) (l++[]));rw[ip,ip]
 |cons c cs I=>
  intro i ks l j W;rw[b9,ou,bj9]at j;let hk:ks.any (λx=>decide (x=(.inr (S c.name):Key)))=false:=by rw[QH];intro x hx q;let:=ff q;subst this;show W c yS hx
  let e1:D1 ks (.inr (S c.name))=ks++[.inr (S c.name)]:=by delta D1;rw[hk];rfl
  let e2:E4 ks l (.inr (S c.name)) (.int (i:ak))=l++[.int (i:ak)]:=by delta E4;rw[hk];rfl
  let ih:=I (i+1) (ks++[.inr (S c.name)]) (l++[.int (i:ak)]) j.2 (λd hd q=>by
   obtain q|q:=sh.mp q;.show W d (by simp[hd]) q
   .rw[fq]at q;let:=vq (axf q);let hc:(cs.map λc=>c.name).contains c.name=true:=by erw[aj7,gx.mpr (ap d hd this)]
    rw[hc]at j;show cj j.1 yD);rw[b9];change(GB ((i:ak)+1) (cs.map EI) (D1 ks (.inr (S c.name))) _)=_;rwa[e1,e2,show((i:ak)+1)=((i+1:ai):ak)by lia,ih,jl,jl,b9,d6,MA];rfl
def aiw(hd:JJ T)(hl:T.cols.length<4000):EY [.str (S T.name),CZ T.cols,B6 T.rows]=aa (BF T):=by change(if(T.cols.map EI).length<4000 then(GB 0 _ [] []).map (λp=>D.obj "Table" ["name","columns","rows","places"] [.str _,.tup _,B6 T.rows,p])else af)=_;rw[bt,aj hl,show(0:ak)=(0:ai)from rfl,bb9 T.cols 0 [] [] hd (λc j q=>nomatch q)];rfl
end CK
namespace CK
open PySem PySem.Spec PyProof.Rows L2 DL
def II(b:ab ai):ab Int:=b.map λn:ai=>(n:ak)
def bca(b):B7 b=tD (II b):=by simp[B7,tD,II]
def ate(l:ab (ab ai)):l.map B7=(l.map II).map tD:=by simp[bca]
def atf:∀a b,F1 (II a) (II b)=ajy a b
 |[],[]=>rfl
 |[],_::_=>rfl
 |_::_,[]=>rfl
 |a::r,b::s=>by change(decide _||(decide _&&F1 (II r) (II s)))=(decide _||_);rw[atf r s,show decide _=decide (a<b)from yx.mpr yL,show decide (a=(b:ak))=(a==b)from(by lia)]
def ae0(h:MM.Sd l):l.Nodup:=VJ (fun{a b}q e=>by grind[MM.lt_irrefl]) h
def ae1(hm:MM.Sd m)(W:l.Nodup)(he:∀x,x∈l↔x∈m)(h0:∀x,x∈m->x≠[]):FE [AX l]=aa (AX m):=by
 delta AX;erw[ate,ate,a2m (λt j=>?_) ?_ ?_];.let⟨b,hb,rfl⟩:=gx.mp j;simp_all[II]
 .erw[NH,VJ (fun{a b}q=>anz ?_) hm];erw[atf,q]
 grind[bnw,List.perm_ext_iff_of_nodup,ae0]
def EB:y8->Bytes
 |.each _ _=>J4
 |.any _ _=>Q4
 |.pairs _ _=>aw7
 |.next _ _=>J5
 |.key _ _=>aw8
 |.fixes _ _ _=>aw9
 |.refers _ _ _ _=>NJ
 |.groups _ _ _ _ _=>yz
def aao(h:ku t=aa k):AB (AE t) (.int 0)=aa (.str (S (EB k)))/\AB (AE t) (.int 1)=aa (.str (S k.table)):=by obtain⟨n,x⟩|⟨n,x⟩|⟨n,x⟩|⟨n,x⟩|⟨n,cs⟩|⟨n,cs,ds⟩|⟨n,cs,u,ds⟩|⟨n,cs,a,lo,j⟩:=k<;>(first|let⟨c,rfl,q⟩:=jv h|let⟨rfl,W,q2⟩:=jv h)<;>show⟨rfl,rfl⟩
def DN(k:y8)(n:ai)(x:ab ai):Prop:=match k with
 |.each _ _=>∃i,i<n/\x=[i]
 |.next _ _=>∃i,i+1<n/\x=[i,i+1]
 |_=>∃i j,i<j/\j<n/\x=[i,j]
section
variable(A:bw s k.table=aa T)(B:EJ k=ae)
include A B
def acv:MM.Sd (a8 s k):=by
 cases k with
 |each t c=>simp[MM.aah (t:=t) A,MM.aci]
 |pairs t c|key t c|fixes t c d=>simp[MM.aai (t:=t) A,MM.aak (t:=t) A,MM.aal (t:=t) A,MM.acj]
 |next t c=>simp[MM.aaj (t:=t) A,MM.aek]
 |_=>trivial
def aap(x):x∈a8 s k↔DN k T.count x/\DR T k x=true:=by
 cases k with
 |each t c=>
  rw[MM.aah (t:=t) A,MM.aa9];constructor;.rintro⟨i,h1,h2,rfl⟩;show⟨(ap i h1 rfl),h2⟩
  .rintro⟨⟨i,h1,rfl⟩,h2⟩;show et i h1 h2 rfl
 |pairs t c|key t c|fixes t c d=>
  rwa[MM.aai (t:=t) A,MM.aak (t:=t) A,MM.aal (t:=t) A,MM.abb];constructor;.rintro⟨i,j,h1,h2,q,rfl⟩;show⟨⟨i,j,h1,h2,rfl⟩,q⟩
  .rintro⟨⟨i,j,h1,h2,rfl⟩,q⟩;show ic i j h1 h2 q rfl
 |next t c=>
  rw[MM.aaj (t:=t) A,MM.aba];constructor;.rintro⟨i,h1,h2,rfl⟩;show⟨⟨i,by omega,rfl⟩,h2⟩
  .rintro⟨⟨i,h1,rfl⟩,h2⟩;show et i (by omega) h2 rfl
 |_=>trivial
end
def ae2(h:DN k n x):x≠[]:=by delta DN at h;lia
def aix(h:DN k n x):∀i,i∈x->i<n:=by
 let two:(∃i j,i<j/\j<n/\x=[i,j])->∀i,i∈x->i<n:=λh i hi=>by grind
 cases k with
 |each=>let⟨j,q,rfl⟩:=h;walk
 |next=>let⟨j,q,rfl⟩:=h;show two (dq j _ (si j) q rfl)
 |_=>show two h
def aiy(h:DN k n x):Small n x:=by
 delta DN at h;k_lt h;.let⟨i,h1,rfl⟩:=h;show .inl ⟨i,h1,rfl⟩
 .let⟨i,h1,rfl⟩:=h;show .inr ⟨i,i+1,yL,h1,rfl⟩
 .let⟨i,j,h1,h2,rfl⟩:=h;show .inr ⟨i,j,yL,h2,rfl⟩
def aiz(n)(x)(w)(h1:(w==J4)=ag)(h2:(w==J5)=ag):x∈DS w n↔(∃i j,i<j/\j<n+1/\x=[i,j])/\n∈x:=by delta DS;grind
def xk(B:EJ k=ae)(n)(x):x∈DS (EB k) n↔DN k (n+1) x/\n∈x:=by
 cases k with
 |each t c=>
  change x∈[[n]]↔_;rw[fq];constructor;.rintro rfl;show⟨⟨n,yL,rfl⟩,yS⟩
  .rintro⟨⟨i,h1,rfl⟩,h2⟩;simp at h2;rw[h2]
 |next t c=>
  change x∈(if 0<n then[[n-1,n]]else[])↔_;constructor
  .intro h;k_lt h;.rw[fq]at h;subst h;show⟨⟨n-1,yL,by rw[show n-1+1=n by lia]⟩,yS⟩
   .trivial
  .rintro⟨⟨i,h1,rfl⟩,h2⟩;simp at h2;let:n=i+1:=yL;walk
 |pairs t c=>show aiz _ _ _ rfl rfl
 |key t c=>show aiz _ _ _ rfl rfl
 |fixes t c d=>show aiz _ _ _ rfl rfl
 |any t c=>show nb B
 |refers t c u d=>show nb B
 |groups t c a l u=>show nb B
def atg(w)(h:n<=1000):(DS w n).length<=1000:=by
 delta DS;split;.simp
 split;.split;all_goals simp
 walk
def ath(w)(n):(DS w n).Nodup:=by
 delta DS;split;.simp
 split;.split;all_goals simp
 .show VE _ (λa b h e=>h (by injection e)) List.nodup_range
def ai0(B:EJ k=ae)(n)(x):DN k (n+1) x↔DN k n x\/(DN k (n+1) x/\n∈x):=by
 constructor
 .intro h;by_cases q:n∈x;.show .inr ⟨h,q⟩
  .show .inl ?_;delta DN at h⊢;k_lt h;all_goals grind
 .rintro(h|h);.delta DN at h⊢;k_lt h;all_goals grind
  .show h.1
def bcb(hc:T2.cols=T.cols)(hr:∀j,j<n->T2.row j=T.row j)(h:DN k n x):DR T2 k x=DR T k x:=by
 let q:∀i j,i<n->j<n->brk T2 k i j=brk T k i j:=by intro i j hi W;delta brk;cases k<;>simp[hc,hr i hi,hr j W,qt,f9]
 obtain⟨i,h1,rfl⟩|⟨i,j,h1,h2,rfl⟩:=aiy h;.show q i i h1 h1
 .show q i j h1 h2
noncomputable def fG(j q W:ab D->ah D):DL.Ctx:=Cq.c (X7 j q W)
def YR(j q W:ab D->ah D):D->ab Sl->ah Out:=D3 (fG j q W) (AO (top 21)) 20 (D9 (BC (top 21)) 3)
def YS(j q W:ab D->ah D)(ξ:ab Sl):ah Out:=BP (fG j q W) (AO (top 21)) 20 ξ ((BC (top 21)).drop 4) (λζ=>af)
def ati(W gb gs)(t ts):ABS W gb gs t ts=
 AI (AG (AA .In) (AB t (.int 0)) (aa (.tup [.str "any",.str "refers",.str "groups"]))) ((W [t,ts]).map Out.ret)
  ((AG AB (aa ts) (AB t (.int 1))).bind λq=>
   (OA (aa (.int 1)) (AG BI ((AF (A8 FL "rows" (aa q)) (aa [])).bind AM) (aa (.int 1)))).bind λj=>
    BO (AU (YR W gb gs) j [.val t,.val ts,.val q,.own [],.no]) (YS W gb gs)):=by rfl
def bcc(gw W gs)(t ts q d)(l)(X):YR gw W gs d [.val t,.val ts,.val q,.own l,X]=
 (F5 ((AF (aa t) (AF (aa q) (AF ((AF (AB t (.int 0)) (aa [d])).bind gs) (aa [])))).bind W)).bind λj=>if l.length+j.length<=aw then aa (.next [.val t,.val ts,.val q,.own (l++j),.val d])else none:=by rfl
def bcd(q W gs)(t ts j)(l)(X):YS q W gs [.val t,.val ts,.val j,.own l,X]=(FE [.lst l]).map Out.ret:=by rfl
def ae3(k):AA .In (.str (S (EB k))) (.tup [.str "any",.str "refers",.str "groups"])=aa (.bl (!EJ k)):=by cases k<;>rfl
def bcf(ts)(he:GW T)(hd:BE t<42)(h:ku t=aa k)(W:EJ k=ae)(hc:T.hasCols (C5 k)=ae)(hT:T.count<=1000):
 ∀(m i)(acc)(X),i+m=T.count->acc.length<=1000*i->∃q,AU (YR HC HB JF) (EE ((i+1:ai)) m) [.val (AE t),.val ts,.val (BF T),.own (acc.map B7),X]=
  aa (.next [.val (AE t),.val ts,.val (BF T),.own ((acc++(u9 i m).flatMap λn=>(DS (EB k) n).filter (DR T k)).map B7),q]):=by
 intro m;induction m with
 |zero=>show λi acc X _ _=>⟨X,by simp[EE,AU]⟩
 |succ m I=>
  intro i acc X hi ha;let hs:∀b,b∈DS (EB k) i->Small T.count b:=λb hb=>by
   let:=aiy ((xk W i b).mp hb).1;obtain⟨j,h1,rfl⟩|⟨j,j2,h1,h2,rfl⟩:=this;.show .inl ⟨j,yL,rfl⟩
   .show .inr ⟨j,j2,yL,yL,rfl⟩
  let hfl:((DS (EB k) i).filter (DR T k)).length<=1000:=jh (V2 _ _) (atg (EB k) (show i<=1000 by lia));let⟨q,ih⟩:=I (i+1) (acc++(DS (EB k) i).filter (DR T k)) _ yL (by rw[e9];lia);show⟨q,?_⟩;let e:=f6;rw[EE,AU,bcc,(aao h).1,cv,b5,as3 (EB k) yL,cv,cv,cv,b5,ais he hd h W hc hs];change(match(if(acc.map B7).length+(((DS (EB k) i).filter _).map B7).length<=aw then aa (Out.next [.val (AE t),.val ts,.val (BF T),.own _,.val _])else af)with
   |some (.next ξ')=>AU _ _ ξ'
   |some (.ret r)=>aa (.ret r)
   |none=>af)=_;rw[bt,bt,aj yL,<-fe,show((i+1:ai):ak)+1=((i+1+1:ai):ak)by lia];dsimp only;rw[ih,aj8,tj,jl]
def bcg(hk:EJ k=ae)(x):(x∈(e6 T.count).flatMap λn=>(DS (EB k) n).filter (DR T k))↔DN k T.count x/\DR T k x=true:=by
 rw[List.mem_flatMap];let up:∀n m,n<=m->DN k n x->DN k m x:=by
  intro n m hnm h;induction m with
  |zero=>grind
  |succ m ih=>
   by_cases q:n=m+1;.grind
   .show(ai0 hk m x).mpr (.inl (ih yL))
 constructor;.rintro⟨n,hn,hx⟩;rw[iu]at hx;rw[ka]at hn;show⟨up _ T.count yL ((xk hk n x).mp hx.1).1,hx.2⟩
 .rintro⟨h1,h2⟩;let:∀m,DN k m x->∃n,n<m/\DN k (n+1) x/\n∈x:=by
   intro m;induction m with
   |zero=>
    intro h;exfalso;let:=aix h;clear h1 h2 up;cases x with
    |nil=>show ae2 h rfl
    |cons a r=>let:=this a yS;lia
   |succ m ih=>grind[ai0]
  show au (this _ h1) λn hn hc=>⟨n,ka.mpr hn,iu.mpr ⟨(xk hk n x).mpr hc,h2⟩⟩
def bch(j:EJ k=ae)(n):((e6 n).flatMap λn=>(DS (EB k) n).filter (DR T k)).Nodup:=by delta axg;erw[bjk,⟨λa ζ=>kg _ (ath _ a),(VJ (fun{a b}q x W y hy e=>?_) (yw))⟩];let h1:=aix ((xk j a x).mp (iu.mp W).1).1;grind[xk]
def bci(h:n<=900000):OA (aa (.int 1)) (aa (.int ((n:ai)+1)))=aa (EE 1 n):=by delta OA;grind
def acw(T:gj):AM [B6 T.rows]=aa (.int T.count):=by change aa _=_;rw[bt];rfl
def bck(he:GW T)(hd:BE t<42)(h:ku t=aa k)(j:EJ k=ae)(hf:bw s k.table=aa T)(hc:T.hasCols (C5 k)=ae)(q:T.count<=1000):
 OV [AE t,BN s]=aa (AX (a8 s k)):=by change AK _=_;let⟨W,h1⟩:=aao h;rwa[ati,W,h1,ae3,j,dm,aam,hf];rw[show(!ae)=ag from rfl,cx,ao yD,j4,b5,abi,cv,b5,acw,dm,show BI _ _=aa (.int _)from rfl,bci yL,b5];let⟨X',e⟩:=bcf _ he hd h j hc q T.count 0 [] .no yL yS;rw[show(((0+1:ai)):ak)=1 from rfl,qk,<-V1]at e;rw[show[]=[].map B7 from rfl,e];change AK (YS _ _ _ [.val _,.val _,.val _,.own _,X'])=_;erw[bcd,d5,ae1 (acv hf j) (bch j _) (λx=>(bcg j x).trans (aap hf j x).symm) λx hx=>ae2 ((aap hf j x).mp hx).1]
def bcl(Γ)(sc)(n)(ξ)(st)(k)(p)(j:st=.For (HK st) (FW st) (YK st) [] (ACK st))(q:IZ sc Γ.N ξ (FW st)=aa p)(W:GJ Γ.fi (HK st)=ae):
 stK Γ sc n (BP Γ sc n) ξ st k=(CG (AU (D3 Γ sc n st) p.2 (ξ.set p.1 .no))).bind k:=by
 rw[j];change(match IZ sc Γ.N ξ (FW st)with
  |some p=>if GJ Γ.fi (HK st)then(CG _).bind k else af
  |none=>LA Γ sc n _ ξ _ _ _ k)=_;rw[q];dsimp;rw[aj W];rfl
section
variable(G E F:ab D->ah D)
noncomputable def aG:DL.Ctx:=Cq.c (X0 G)
def YT:D->ab Sl->ah Out:=D3 (aG G) (AO (top 13)) 23 (D9 (BC (top 13)) 0)
def ACL(ξ:ab Sl):ah Out:=BP (aG G) (AO (top 13)) 23 ξ ((BC (top 13)).drop 1) (λj=>af)
def bcm(t j):ABL G t j=((A8 FL "rows" (aa j)).bind BM).bind λq=>BO (AU (YT G) q [.val t,.val j,.no]) (ACL G):=by rfl
def bcn(t j d)(X):YT G d [.val t,.val j,X]=AI ((AF (AB t (.int 2)) (AF (A8 FL "places" (aa j)) (aa [d,d]))).bind G) (aa (.ret (.lst []))) (aa (.next [.val t,.val j,.val d])):=by rfl
noncomputable def rG:DL.Ctx:=Cq.c (X5 E)
noncomputable def r1:D->ab Sl->ah Out:=D3 (rG E) (AO (top 14)) 22 (D9 (BC (top 14)) 1)
noncomputable def r2:D->ab Sl->ah Out:=D3 (rG E) (AO (top 14)) 20 (D9 (BC (top 14)) 3)
def YU(ξ:ab Sl):ah Out:=BP (rG E) (AO (top 14)) 22 ξ ((BC (top 14)).drop 2) (λj=>af)
def ACM(ξ:ab Sl):ah Out:=BP (rG E) (AO (top 14)) 20 ξ ((BC (top 14)).drop 4) (λj=>af)
def bco(t W j):ABP E t W j=((A8 FL "rows" (aa j)).bind BM).bind λq=>BO (AU (r1 E) q [.val t,.val W,.val j,.tk [],.no,.no,.no,.no]) (YU E):=by rfl
def bcp(t q j d)(es)(X A B C):r1 E d [.val t,.val q,.val j,.tk es,X,A,B,C]=(G6 ((AF (aa j) (AF (aa d) (AF (AB t (.int 4)) (aa [])))).bind E)).bind λW=>if es.length<aw/\es.all G7=ae then aa (.next [.val t,.val q,.val j,.tk (ET es W (.v (.bl ae))),.val d,A,B,C])else none:=by rfl
def bcq(t j W)(es)(X A B C):YU E [.val t,.val j,.val W,.tk es,X,A,B,C]=(IU (A8 FL "rows" (aa j))).bind λq=>BO (AU (r2 E) q [.val t,.val j,.val W,.tk es,X,.own [],B,C]) (ACM E):=by rfl
def bcr(t q W i d)(es)(l)(X B C):r2 E (.tup [i,d]) [.val t,.val q,.val W,.tk es,X,.own l,B,C]=((AF (aa q) (AF (aa d) (AF (AB t (.int 2)) (aa [])))).bind E).bind λj=>
 AI (A0 (AA .NotIn (.tup []) j) (LB (aa j) es)) (if l.length<aw then aa (.next [.val t,.val q,.val W,.tk es,.val d,.own (l++[.tup [i]]),.val i,.val j])else af) (aa (.next [.val t,.val q,.val W,.tk es,.val d,.own l,.val i,.val j])):=by rfl
noncomputable def gG:DL.Ctx:=Cq.c (X6 F E)
def PL(i:ai):Stmt:=D9 (BC (top 16)) i
noncomputable def g1:D->ab Sl->ah Out:=D3 (gG E F) (AO (top 16)) 22 (PL 1)
noncomputable def g2:D->ab Sl->ah Out:=D3 (gG E F) (AO (top 16)) 20 (PL 3)
noncomputable def gS(ξ:ab Sl):ah Out:=BP (gG E F) (AO (top 16)) 22 ξ ((BC (top 16)).drop 2) (λj=>af)
def AFQ(ξ:ab Sl):ah Out:=BP (gG E F) (AO (top 16)) 20 ξ ((BC (top 16)).drop 4) (λj=>af)
def bcs(t j):ABQ F E t j=(IU (A8 FL "rows" (aa j))).bind λq=>BO (AU (g1 E F) q [.val t,.val j,.tk [],.no,.no,.no,.no]) (gS E F):=by rfl
def bct(t j i d)(es)(A B X Y):g1 E F (.tup [i,d]) [.val t,.val j,.tk es,A,B,X,Y]=(G6 ((AF (aa j) (AF (aa d) (AF (AB t (.int 2)) (aa [])))).bind E)).bind λW=>if es.length<aw then(K9 es W i).bind λq=>aa (.next [.val t,.val j,.tk q,A,B,.val i,.val d])else none:=by rfl
def gS2(t j)(es)(A B X Y)(r)(k):stK (gG E F) (AO (top 16)) 21 r [.val t,.val j,.tk es,A,B,X,Y] (PL 2) k=k [.val t,.val j,.tk es,.own [],B,X,Y]:=by rfl
def bcu(t j)(es)(A B X Y)(l)(h:IC es=aa l):gS E F [.val t,.val j,.tk es,A,B,X,Y]=(CG (AU (g2 E F) l [.val t,.val j,.no,.own [],B,X,Y])).bind (AFQ E F):=by change BP _ _ (21+1) [.val t,.val j,.tk es,A,B,X,Y] (PL 2::PL 3::(BC (top 16)).drop 4) _=_;rw[aez,gS2,show(21)=20+1 from rfl,aez,bcl _ _ 20 _ _ _ (2,l) rfl (by change(IC es).map _=aa (2,l);grind) rfl];rfl
def atj(t j d)(l)(A B X Y):g2 E F d [.val t,.val j,A,.own l,B,X,Y]=AI (BA (WW (AB t (.int 4)) ((AF (AB t (.int 3)) (AF (aa j) (AF (aa d) (aa [])))).bind F) (AB t (.int 5))))
 ((IP [d]).bind λx=>if l.length<aw then aa (.next [.val t,.val j,A,.own (l++[x]),.val d,X,Y])else af) (aa (.next [.val t,.val j,A,.own l,.val d,X,Y])):=by rfl
end
def atk(hd:BE c<42)(j:g0 ag c=aa x)(hc:GU T.cols x.cols):∀(rs:ab Q0)(X),(∀r,r∈rs->wa r=T.cols.length)->
 BO (AU (YT (FO 42)) (rs.map AY) [.val (AE (.list [.word Q4,.word n,c])),.val (BF T),X]) (ACL (FO 42))=aa (.ret (AX (if rs.any λr=>x.holds T.cols r r then[]else[[]])))
 |[],X,_=>by rfl
 |r::rs,X,h=>by
  let q:=atk (n:=n) hd j hc rs (.val (AY r)) (λy W=>h y yA);let hr:=h r yS;rw[b9,AU,bcn,acr,show AB _ _=aa (AE c)from rfl,cv,cv,b5,arx hr hr 42 c x hd (b8 _) j hc,cx,MZ];cases x.holds T.cols r r with
  |true=>rfl
  |false=>lia
def bcv(hd:BE c<42)(j:g0 ag c=aa x)(hc:T.hasCols x.cols=ae)(he:GW T):
 OQ [AE (.list [.word Q4,.word n,c]),BF T]=aa (AX (if T.rows.any λr=>x.holds T.cols r r then[]else[[]])):=by change AK _=_;rw[bcm];change AK (BO _ _)=_;rw[atk hd j (xj hc) T.rows .no he];rfl
def CS:ot->CI
 |.num n=>aa (.inl (n:ai))
 |.word w=>aa (.inr (S w))
 |.gone=>af
def bcw(h:CS a=CS b):a=b:=by
 cases a<;>cases b<;>simp[CS]at h;.grind
 .rw[vq h]
 rfl
def ae4{a b:ab ot}(h:a.map CS=b.map CS):a=b:=bhx (λx y e=>bcw e)|>.mp h
def ai1(r):G6 (aa (AY r))=aa (r.map CS):=by
 change IS _=_;induction r with
 |nil=>rfl
 |cons a r j=>cases a<;>(change(IS _).map _=_;rw[j];rfl)
def bcx(a b:ab ot):decide (a.map CS=b.map CS)=(a==b):=by grind[ae4]
def bcy(es)(k)(t):(ET es k t).length<=es.length+1:=by delta ET;grind
def bcz(es)(k)(t)(j):ES (ET es k t) j=(ES es j||decide (k=j)):=by
 delta ET;split
 .ext h;let e:ES (es.map λe=>if e.1=k then(e.1,t)else e) j=ES es j:=by delta ES;rw[U2];congr 1;funext e;change decide ((if _ then _ else _:_×_).1=_)=_;split<;>rfl
  rw[e];grind
 simp[ES]
def bc0(r)(es):LB (aa (AY r)) es=aa (.bl (!ES es (r.map CS))):=by simp[LB,ai1]
def bc1{V}(t)(q ld)(h4:AB (AE t) (.int 4)=aa ld)(hd:BM ld=aa (BK ds))(hc:GU V.cols ds)(A B C):∀(rs:ab Q0)(es)(X),(∀r,r∈rs->wa r=V.cols.length)->es.length+rs.length<aw->es.all G7=ae->
 ∃j W,AU (r1 C3) (rs.map AY) [.val (AE t),.val q,.val (BF V),.tk es,X,A,B,C]=aa (.next [.val (AE t),.val q,.val (BF V),.tk j,W,A,B,C])/\∀k,ES j k=(ES es k||rs.any λr=>decide ((f9 V ds r).map CS=k)):=by
 intro rs;induction rs with
 |nil=>show λes X _ _ _=>gk es X rfl λk=>yS
 |cons r rs I=>
  intro es X h hl hn;simp[d6]at hl;let:=bcy es ((f9 V ds r).map CS) (.v (.bl ae));show jd (I (ET es ((f9 V ds r).map CS) (.v (.bl ae))) (.val (AY r)) (λy hy=>h y yA) yL (apn hn)) λj W e1 e2=>gk j W ?_ λk=>?_;.rw[b9,AU,bcp,h4,cv,cv,cv,b5,vy (h r yS) hc hd,ai1,b5,aj ⟨yL,hn⟩];omega
  grind[bcz]
def bc2(r):AA .NotIn (.tup []) (AY r)=aa (.bl (!r.contains .gone)):=by
 change(DH _ _).map _=_;let:DH (.tup []) (r.map BX)=aa (r.contains .gone):=by
  induction r with
  |nil=>rfl
  |cons a r j=>rw[b9,DH,j];cases a<;>rfl
 rw[this];rfl
def atl{T:gj}(h:i<T.count):T.rows.drop i=T.row i::T.rows.drop (i+1):=by rw[yi h];congr 1;change _=T.rows.getD i [];rw[yh,gz h];rfl
def bc3{T V}(t)(oth ld)(h2:AB (AE t) (.int 2)=aa ld)(hd:BM ld=aa (BK cs))(hc:GU T.cols cs)(he:GW T)(hes:∀k,ES es k=V.rows.any λr=>decide ((f9 V ds r).map CS=k))(hT:T.count<100000):
 ∀(m i)(acc)(X B C),i+m=T.count->acc.length<=i->
 BO (AU (r2 C3) (CM i ((T.rows.drop i).map AY)) [.val (AE t),.val (BF T),.val oth,.tk es,X,.own (acc.map B7),B,C]) (ACM C3)=aa (.ret (AX (acc++((u9 i m).filter λj=>!(oo T V cs ds (T.row j))).map λj=>[j]))):=by
 intro m;induction m with
 |zero=>intro i acc X B C hi _;let:=Q7 (by change T.count<=i;lia);rw[this];change _=aa (Out.ret (AX (acc++[])));rw[ip];rfl
 |succ m I=>
  intro i acc X B C hi ha;let hlt:i<T.count:=yL;let e:=f6;rwa[atl hlt,b9,CM,AU,bcr,h2,cv,cv,cv,b5,vy (aev he hlt) hc hd,bc2];rw[bc0,hes,md];let hp:(!(oo T V cs ds (T.row i)))=((!(f9 T cs (T.row i)).contains .gone)&&!(V.rows.any λr=>decide ((f9 V ds r).map CS=(f9 T cs (T.row i)).map CS))):=by delta oo;rw[Bool.not_or];rwa[bcx]
  rw[aj8,u7,hp];let tt:∀b:a4,(if(!(f9 T cs _).contains .gone)=ae then aa (D.bl b)else aa (D.bl ag))=aa (.bl ((!(f9 T cs (T.row i)).contains .gone)&&b)):=λb=>by cases(f9 T cs (T.row i)).contains .gone<;>rfl
  rw[tt,cx];generalize(_&&!_)=q;cases q with
  |true=>rw[aj rfl,aj rfl,bt,aj yL];let ih:=I (i+1) (acc++[[i]]) (.val (AY (T.row i))) (.val (.int (i:ai))) (.val (AY (f9 T cs (T.row i)))) yL (by rw[e9,qr];lia);rw[fe,jl]at ih;show ih
  |false=>show I (i+1) acc _ _ _ yL yL
def bc4{T V}(hc:T.hasCols cs=ae)(hd:V.hasCols ds=ae)(he:GW T)(j:GW V)(q:T.count<100000)(hV:V.count<100000):
 OT [AE (.list [.word NJ,.word n,.list (cs.map er),.word u,.list (ds.map er)]),BF T,BF V]=aa (AX (MM.ones T.count λi=>!(oo T V cs ds (T.row i)))):=by
 let W:BM (.tup (AV (cs.map er)))=aa (BK cs):=by rw[n9];rfl
 let w2:BM (.tup (AV (ds.map er)))=aa (BK ds):=by rw[n9];rfl
 let e:=f6;change AK _=_;rw[bco];let⟨es',X',e1,e2⟩:=bc1 (.list [.word NJ,.word n,.list _,.word u,.list _]) _ _ rfl w2 (xj hd) .no .no .no V.rows [] .no j (by change 0+V.count<_;lia) rfl;change AK (BO _ _)=_;rw[e1];change AK (YU C3 _)=_;rw[bcq];change AK (BO (AU _ (CM 0 ((T.rows.drop 0).map AY)) [_,_,_,_,_,.own ([].map B7),_,_]) _)=_;rw[bc3 (V:=V) _ (BF V) _ rfl W (xj hc) he (λk=>by rw[e2];rfl) q T.count 0 [] X' .no .no yL (b8 _)];rw[qk,<-V1];rfl
def ME(T:gj):Prop:=∀r,r∈T.rows->lu T.cols r=ae
def ME.aaq(h:ME T):GW T:=λr hr=>by let:=h r hr;grind[lu]
def ai2{T:gj}(h:i<T.count):T.row i∈T.rows:=by change T.rows.getD i []∈T.rows;rw[yh,gz h];grind
def YV:ot->ai
 |.num n=>n
 |_=>0
def ai3(hd:JJ T)(hu:qz T c=ae)(hf:lu T.cols r=ae):∃j,(T.cols.findIdx? λx=>x.name==c)=aa j/\∃x,r[j]?=aa x/\qv T.cols r c=x/\(x=.gone\/∃n,x=.num n):=by
 delta lu at hf;rw[cg]at hf;let hex:(T.cols.findIdx? λx=>x.name==c).isSome=true:=by delta qz at hu;grind
 let⟨j,hj⟩:=MS.mp hex;obtain⟨q,hname,-⟩:=aj1.mp hj;let hup:PJ (T.cols[j]'q).kind=true:=by rw[<-aij hd hj (gz q)];congr 1
 let W:j<r.length:=yL;show⟨j,hj,r[j],gz W,?_,?_⟩;.delta qv;rw[hj,b5,gz W];rfl
 .let hz:(T.cols[j]'q,r[j])∈T.cols.zip r:=by show aj2.mpr ⟨j,by rw[axh];lia,?_⟩;rw[bki]
  let:=mr.mp hf.2 _ hz;delta bkj at this;rw[jb]at this;obtain h|h:=this;.cases hk:(T.cols[j]'q).kind with
   |up n=>
    rw[hk]at h;cases hr:r[j]with
    |num m=>show .inr ⟨m,rfl⟩
    |word w=>rw[hr]at h;show nb h
    |gone=>show .inl rfl
   |of_ ws=>rw[hk]at hup;show nb hup
  grind
def atm:∀(l:ab ai)(a),l.foldl (λx y=>x+y) a=a+l.sum
 |[],a=>by rfl
 |b::l,a=>by simp[atm l];lia
def atn:∀(l:ab ai),(l.map λn:ai=>(n:ak)).sum=l.sum
 |[]=>rfl
 |b::l=>by rwa[b9,List.sum_cons,atn l];rfl
def sum_filter(f:ai->ot):∀g:ab ai,(∀i,i∈g->f i=.gone\/∃n,f i=.num n)->((g.filter λi=>f i !=.gone).map λi=>YV (f i)).sum=(g.map λi=>YV (f i)).sum
 |[],_=>rfl
 |i::g,h=>by
  let W:=sum_filter f g λj hj=>h j yA;simp[u7];obtain q|⟨n,q⟩:=h i (by simp);.rw[q];change _=0+_;lia
  walk
def bc5(hd:JJ T)(hf:ME T)(hu:a.all (qz T)=ae)(hg:∀i,i∈g->i<T.count):JE [AE (NK a),BF T,.lst (g.map λn:ai=>D.int n)]=aa (.int (NI T a g)):=by
 change AK _=_;delta ABM;cases a with
 |none=>change AK ((AM [.lst _]).map Out.ret)=_;rw[d5,oa,bt];rfl
 |some c=>
  let W:qz T c=true:=hu;rw[show AG _ _ _=aa (.bl ag)from rfl,cx,ao yD,acr,abi,show AB _ _=aa (.str (S c))from rfl,dm,ah9];by_cases h0:g=[]
  .subst h0;let hex:(T.cols.findIdx? λx=>x.name==c).isSome=true:=by delta qz at W;grind
   show xE (MS.mp hex) λj hj=>?_;rw[hj];rfl
  .show xE (List.exists_mem_of_ne_nil _ h0) λi0 hi0=>au (ai3 hd W (hf _ (ai2 (hg i0 hi0)))) λj hj _=>?_;rwa[hj];change AK (((AF ((A6 _ _).map D.lst) _).bind sumF).map Out.ret)=_;let hcell:∀i,i∈g->AG AB (AG AB _ _) _=aa (BX (qv T.cols _ c)):=λi hi=>by let:=aiq (hg i hi);rw[abi]at this;erw[this,dm,aru,au (ai3 hd W (hf _ (ai2 (hg i hi)))) λj2 hj2 zq5_1=>bz zq5_1 λx hx1 hx2 _=>?_];rw[hj]at hj2;cases hj2;rw[hx1,hx2];rfl
   rw[acg (q:=λi:ai=>qv T.cols _ c !=.gone) λi hi=>by rw[hcell i hi,dm,show(D.tup []:D)=BX .gone from rfl,arv,cx];delta bne;generalize(qv T.cols _ c==bnx)=q;cases q<;>rfl];let hk:∀i,i∈g->qv T.cols _ c=.gone\/∃n,qv T.cols (T.row i) c=.num n:=λi hi=>by show au (ai3 hd W (hf _ (ai2 (hg i hi)))) λj2 hj2 zq4_1=>bz zq4_1 λx hx1 hx2 hx3=>?_;erw[hx2,hx3]
   let hm:((g.filter λi=>qv T.cols (T.row i) c !=.gone).map λi=>BX (qv T.cols (T.row i) c))=(((g.filter λi=>qv T.cols (T.row i) c !=.gone).map λi=>YV (qv T.cols (T.row i) c)).map λn:ai=>(n:ak)).map D.int:=by
    erw[el,el,jw λi hi=>?_];rw[iu]at hi;obtain q|⟨n,q⟩:=hk i hi.1;.rw[q]at hi;show cj hi.2 yD
    .rw[Function.comp,q];rfl
   rwa[hm];change AK (((intsOf _).map λns=>D.int ns.sum).map Out.ret)=_;rwa[adu,j4,atn,sum_filter _ g hk];change _=aa (D.int (((g.map _).foldl _ 0:ai):ak));rw[atm,ND];rfl
def E8(key:ai->ab ot)(n:ai):Tk:=(MM.D8 key n).map λj=>((key j).map CS,TV.l ((MM.cls key n j).map λm:ai=>D.int (m:ak)))
def bc6(h:MM.D7 key n=ae):(E8 key n).find? (λe=>decide (e.1=(key n).map CS))=none:=by rw[ajp];intro e he q;let⟨j,W,rfl⟩:=gx.mp he;show MM.uf.mp h j (ka.mp (iu.mp W).1) (ae4 (ff q))
def bc7(key)(n)(hn:n<100000):K9 (E8 key n) ((key n).map CS) (.int n)=aa (E8 key (n+1)):=by
 delta K9;let e:=f6;cases hf:MM.D7 key n with
 |true=>
  rw[bc6 hf];dsimp;delta E8;rw[MM.ah7,aj hf,fe];congr 2;.show jw λj W=>?_;rw[MM.vx,ao (λq=>MM.uf.mp hf j (ka.mp (iu.mp W).1) q.symm)]
  .rw[b9,VA,MM.vx,aj rfl];let:MM.cls key n n=[]:=by delta MM.cls;erw[bjs,λj W q=>MM.uf.mp hf j (ka.mp W) (ff q)]
   rw[this];rfl
 |false=>
  let hex:∃j,j<n/\key j=key n:=by show UG λq=>?_;rw[MM.uf.mpr (λj W z=>q (ap j W z))]at hf;trivial
  show au hex λj W hk=>bz (MM.ah5 key n j W) λj0 hj0 hj1 hj2=>?_;cases hq:(E8 key n).find? (λe=>decide (e.1=(key n).map CS))with
  |none=>exfalso;rw[ajp]at hq;show hq _ (gx.mpr (ap j0 (iu.mpr ⟨ka.mpr yL,hj1⟩) rfl)) (gm (by rw[hj2,hk]))
  |some p=>
   let⟨pk,pv⟩:=p;show au (gx.mp (Q8 hq)) λj1 hj1' ep=>?_;let hpk:=by let:=List.find?_some hq;simpa using this
   injection ep with ep1 ep2;subst ep2;let hlen:(MM.cls key n j1).length<=n:=by show jh (V2 _ _) (by simp)
   dsimp;rw[bt,aj yL];delta E8;erw[MM.ah7,hf,ao yD,el,eh aa (jw λi hi=>?_)];rw[aw1,MM.vx];by_cases q:key n=key i;.rw[aj (show(key i).map CS=(key n).map CS by rw[q]),aj q,fe,MM.aaf (show key i=key j1 by rw[(ae4 (ep1.trans hpk)),q])];rfl
   .rw[ao (λz=>q (ae4 z).symm),ao q]
def bc8(key)(n):IC (E8 key n)=aa ((MM.B0 key n).map λg=>.lst (g.map λm:ai=>D.int m)):=by
 unfold E8 MM.B0;induction MM.D8 key n with
 |nil=>rfl
 |cons a r j=>rw[b9,IC,j];rfl
def bc9(key)(n):(E8 key n).length<=n:=by unfold E8 MM.D8;grind
def bda(t)(ld)(h2:AB (AE t) (.int 2)=aa ld)(hd:BM ld=aa (BK cs))(hc:GU T.cols cs)(he:GW T)(hT:T.count<100000)(A B):
 ∀(m i)(X Y),i+m=T.count->∃q W,AU (g1 C3 JE) (CM i ((T.rows.drop i).map AY)) [.val (AE t),.val (BF T),.tk (E8 (MM.keyOf T cs) i),A,B,X,Y]=aa (.next [.val (AE t),.val (BF T),.tk (E8 (MM.keyOf T cs) T.count),A,B,q,W]):=by
 intro m;induction m with
 |zero=>intro i X Y hi;let:=Q7 (by change T.count<=i;lia);erw[this,show i=T.count by omega,m9 X Y rfl]
 |succ m I=>intro i X Y hi;let j:i<T.count:=yL;let e:=f6;let⟨q,W,ih⟩:=I (i+1) _ _ yL;show m9 q W ?_;let hl:=bc9 (MM.keyOf T cs) i;erw[atl j,b9,CM,AU,bct,h2,cv,cv,cv,b5,vy (aev he j) hc hd,ai1,b5,aj yL,show(f9 T cs _).map CS=(MM.keyOf T cs i).map CS from rfl,bc7 _ i yL,ih]
def bdb{lo hi}(hd:JJ T)(hf:ME T)(hu:a.all (qz T)=ae)(h3:AB (AE t) (.int 3)=aa (AE (NK a)))(h4:AB (AE t) (.int 4)=aa (.int (lo:ai)))(h5:AB (AE t) (.int 5)=aa (.int (hi:ai)))(A X Y):
 ∀(j acc:ab (ab ai))(B),(∀g,g∈j->∀i,i∈g->i<T.count)->acc.length+j.length<100000->∃W,AU (g2 C3 JE) (j.map λg=>.lst (g.map λm:ai=>D.int m)) [.val (AE t),.val (BF T),A,.own (acc.map B7),B,X,Y]=
  aa (.next [.val (AE t),.val (BF T),A,.own ((acc++j.filter λg=>!(lb T a lo hi g)).map B7),W,X,Y]):=by
 intro j;induction j with
 |nil=>show λacc B _ _=>⟨B,by rw[VI,ip];rfl⟩
 |cons g j I=>
  intro acc B hg hl;let e:=f6;rw[u7];let hm:=bc5 hd hf hu (hg g yS);let hch:WW (aa (.int lo)) (aa (.int (NI T a g))) (aa (.int hi))=aa (.bl (lb T a lo hi g)):=by change aa _=aa (D.bl (decide _&&decide _));simp
  let go:∀q,lb T a lo hi g=q->∃W,AU _ _ [.val _,.val _,A,.own ((acc++if(!q)=ae then[g]else[]).map B7),.val (.lst (g.map λm:ai=>D.int m)),X,Y]=
   aa _:=λq ζ=>
   I _ _ (λx hx=>hg x (by walk)) (by grind);cases hq:lb T a lo hi g with
  |true=>simp_all[b9,AU,atj,cv,b5,lm,cx]
  |false=>let⟨W,ih⟩:=go ag hq;show⟨W,?_⟩;rw[b9,AU,atj,h3,h4,h5,cv,cv,cv,b5,hm,hch,hq,lm,cx,aj (by rfl),aj (by rfl),show IP [.lst _]=aa (B7 g)from rfl,b5,bt,aj yL];walk
def bdc{lo hi}(hc:T.hasCols cs=ae)(hd:JJ T)(hf:ME T)(q:a.all (qz T)=ae)(hT:T.count<1000):
 OU [AE (.list [.word yz,.word n,.list (cs.map er),NK a,.num lo,.num hi]),BF T]=aa (AX ((MM.B0 (MM.keyOf T cs) T.count).filter λg=>!(lb T a lo hi g))):=by
 let W:BM (.tup (AV (cs.map er)))=aa (BK cs):=by rw[n9];rfl
 change AK _=_;erw[bcs,iy (bda (T:=T) (.list [.word yz,.word n,.list _,NK a,.num lo,.num hi]) _ rfl W (xj hc) hf.aaq yL .no .no T.count 0 .no .no yL) λX' Y' e1=>?_];change AK (BO (AU _ (CM 0 ((T.rows.drop 0).map AY)) [_,_,.tk (E8 (MM.keyOf T cs) 0),_,_,_,_]) _)=_;rw[e1];change AK (gS C3 JE _)=_;rw[bcu _ _ _ _ _ _ _ _ _ _ (bc8 _ _)];let j:(MM.B0 (MM.keyOf T cs) T.count).length<=T.count:=by unfold MM.B0 MM.D8;grind
 let⟨B',e2⟩:=bdb (t:=.list [.word yz,.word n,.list _,NK a,.num lo,.num hi]) hd hf q rfl rfl rfl .no X' Y' (MM.B0 (MM.keyOf T cs) T.count) [] .no (λg hg i hi=>MM.arl hg hi) (by simp;lia);rw[show[]=[].map B7 from rfl,e2];rfl
def bdd(gr gw gn gb)(t bf ts nm tk):ABV gr gw gn gb t bf ts nm tk=
 AI (BA (gr [t,nm])) (aa (.ret bf))
  (AI (AG (AA .In) (AB t (.int 0)) (aa (.tup [.str "any",.str "refers",.str "groups"]))) ((gw [t,ts]).map Out.ret)
    ((AB ts nm).bind λW=>
     (F4 ((BM bf).bind λq=>(A6 (λd=>AI (AA .NotIn tk d) ((gn [d,tk]).map aa) (aa af)) q).map D.lst)).bind λl=>
      AI (A0 (AG (AA .Eq) (AB t (.int 0)) (aa (.str "next"))) (WX (aa (.int 0)) (aa tk) ((AF (A8 FL "rows" (aa W)) (aa [])).bind AM)))
       ((F5 ((AF (aa t) (AF (aa W) (AF ((AF ((AF (AG E1 (aa tk) (aa (.int 1))) (AF (aa tk) (aa []))).map D.tup) (aa [])).map D.lst) (aa [])))).bind gb)).bind λj=>if l.length+j.length<=aw then(FE [.lst (l++j)]).map Out.ret else af)
       ((FE [.lst l]).map Out.ret))):=by rfl
structure YW(T:gj):Prop where
 MF:JJ T
 fit:ME T
 cnt:T.count<=40
def GZ(s:sy):Prop:=∀T,T∈s->YW T
def GZ.of(h:GZ s)(hf:bw s x=aa T):YW T:=h T (Q8 hf)
structure uh(s:sy)(t:Tr)(k:y8):Prop where
 tr:ku t=aa k
 dp:BE t<42
 good:k.good s=ae
def uh.tab(h:uh s t k):∃T,bw s k.table=aa T:=by let g:=h.good;grind[qx]
def uh.cols(h:uh s t k)(q:EJ k=ae)(j:bw s k.table=aa T):T.hasCols (C5 k)=true:=by
 let g:=h.good;delta qx at g;rw[j]at g;clear j;cases k with
 |each t c=>show g
 |pairs t c=>show g
 |next t c=>show g
 |key t c=>show g
 |fixes t c d=>change T.hasCols (c++d)=ae;grind[aer]
 |any t c=>trivial
 |refers t c u d=>trivial
 |groups t c a l u=>trivial
def ai4(hs:GZ s)(h:uh s t k)(W:EJ k=ag):HC [AE t,BN s]=aa (AX (a8 s k)):=by
 let⟨T,j⟩:=h.tab;let g:=h.good;let hd:=h.dp;let ok:=hs.of j;let hcnt:=ok.cnt;delta qx at g;rw[j]at g;change AK _=_;delta ABR;rwa[(aao h.tr).1,(aao h.tr).2,dm,aam,j,j4,b5];obtain⟨n,x⟩|⟨n,x⟩|⟨n,x⟩|⟨n,x⟩|⟨n,cs⟩|⟨n,cs,ds⟩|⟨n,cs,u,ds⟩|⟨n,cs,a,lo,up_⟩:=k<;>first|let⟨c,rfl,A⟩:=jv h.tr|let⟨rfl,q1,q2⟩:=jv h.tr|subst jv h.tr
 .cases W
 .change AK ((OQ [_,BF T]).map Out.ret)=_;rw[d5,bcv (by let:=aad (l:=[.word Q4,.word n,c]) (t:=c) yS;lia) A g ok.fit.aaq,MM.abd (show bw s n=aa T from j)]
 .cases W
 .cases W
 .cases W
 .cases W
 .rw[cg]at g;cases q:bw s u with
  |none=>rw[q]at g;cases g.2
  |some V=>rw[q]at g;change AK (((AF _ (AF _ (AF (AB (BN s) (.str (S u))) (aa [])))).bind OT).map Out.ret)=_;rw[aam,q,d5,j4,cv,cv,cv,b5,bc4 g.1 g.2 ok.fit.aaq (hs.of q).fit.aaq yL (by let:=(hs.of q).cnt;lia),MM.me (show bw s n=aa T from j) q]
 .rw[cg]at g;change AK ((OU [_,BF T]).map Out.ret)=_;rw[d5,bdc g.1 ok.MF ok.fit g.2 yL,MM.abe (show bw s n=aa T from j)]
def bde(W:GZ s)(h:uh s t k):OV [AE t,BN s]=aa (AX (a8 s k)):=by
 show xE h.tab λT q=>?_;let ok:=W.of q;let hcnt:=ok.cnt;cases j:EJ k with
 |true=>show bck ok.fit.aaq h.dp h.tr j q (h.cols j q) yL
 |false=>change AK _=_;simp[ati,(aao h.tr).1,dm,ae3,j,ai4 W h j];rfl
def ato(j:EJ k=ae):k.tables=[k.table]:=by cases k<;>first|trivial
section
variable(A:bw s x=aa T)
include A
def ae5(j:T2.name=T.name)(y):bw (cw s T2) y=if y=x then aa T2 else bw s y:=by grind[MM.find_name,MM.arb]
def atp(j:T2.name=T.name)(h:k.tables.contains x=ag):a8 (cw s T2) k=a8 s k:=by show MM.aen λy q=>?_;rw[ae5 A j,ao (λe=>by walk)]
def bdf(hs2:GZ (cw s (MM.BD T r)))(h2:uh (cw s (MM.BD T r)) t k)(hcn:(a8 s k).length<=1000000):
 LQ [AE t,AX (a8 s k),BN (cw s (MM.BD T r)),.str (S x)]=aa (AX (a8 (cw s (MM.BD T r)) k)):=by
 change AK _=_;delta ABT;rwa[as4 h2.tr,lm,cx];cases hr:k.tables.contains x with
 |false=>rw[aj yD,atp (T2:=MM.BD T r) A rfl hr];rfl
 |true=>
  rw[ao yD,(aao h2.tr).1,dm,ae3,cx];cases hk:EJ k with
  |false=>rw[aj yD,ai4 hs2 h2 hk];rfl
  |true=>
   let hkx:k.table=x:=by grind[ato]
   let hT2:bw (cw s (MM.BD T r)) x=aa (MM.BD T r):=by rw[ae5 (T2:=MM.BD T r) A rfl,aj rfl]
   let ok2:=hs2.of hT2;let W:bw (cw s (MM.BD T r)) k.table=aa (MM.BD T r):=by grind
   let hT1':bw s k.table=aa T:=by erw[hkx,A]
   let hcnt:=ok2.cnt;let e:=f6;rw[MM.r9]at hcnt;rw[ao yD,aam,hT2,j4,b5,abi,cv,b5,acw,MM.r9,cv,cv,b5,as3 _ yL,cv,cv,cv,b5,
    ais ok2.fit.aaq h2.dp h2.tr hk (h2.cols hk W) (λb hb=>by erw[MM.r9,aiy ((xk hk _ b).mp hb).1]),dm];let hfl:=jh (V2 (DR (MM.BD T r) k) _) (atg (EB k) (show T.count<=1000 by lia));let ha:BI (AX (a8 s k)) (AX ((DS (EB k) T.count).filter (DR (MM.BD T r) k)))=aa (AX (a8 s k++(DS (EB k) T.count).filter (DR (MM.BD T r) k))):=by change(if _ then _ else _)=_;rw[aj (by grind),<-fe];rfl
   let hb:∀y,DN k T.count y->DR (MM.BD T r) k y=DR T k y:=λy hy=>bcb rfl (λj hj=>MM.qb hj) hy;erw[ha,cv,b5,d5,ae1 (acv W hk) ?_ (λy=>?_) (λy hy=>ae2 ((aap W hk y).mp hy).1)];.delta axg;erw[bkk,⟨ae0 (acv hT1' hk),kg _ (ath _ _),λa ha b hb' q=>?_⟩];subst q;let:=(aix ((aap hT1' hk a).mp ha).1) _ (((xk hk _ a).mp (iu.mp hb').1).2);lia
   grind[sh,iu,aap,xk,MM.r9,ai0]
end
def bdg(b)(i:ai):AA .NotIn (.int i) (B7 b)=aa (.bl (!b.contains i)):=by
 let:∀b:ab ai,DH (.int i) (b.map λn:ai=>D.int n)=aa (b.contains i):=by
  intro b;induction b with
  |nil=>rfl
  |cons a r j=>rw[b9,DH,j,bkg,show C9 _ _=aa (i==a)from by change aa _=_;congr 1;lia];rfl
 change(DH _ _).map _=_;grind
def bdh(k):AA .Eq (.str (S (EB k))) (.str "next")=aa (.bl (match k with|.next _ _=>ae|_=>ag)):=by cases k<;>rfl
def bdi(A:bw s x=aa T)(hi:i<T.count)(hs2:GZ (cw s (MM.BH T i)))(h2:uh (cw s (MM.BH T i)) t k)(hcn:(a8 s k).length<=1000000):
 LR [AE t,AX (a8 s k),BN (cw s (MM.BH T i)),.str (S x),.int i]=aa (AX (a8 (cw s (MM.BH T i)) k)):=by
 change AK _=_;rwa[bdd,as4 h2.tr,lm,cx];cases hr:k.tables.contains x with
 |false=>rw[aj yD,atp (T2:=MM.BH T i) A rfl hr];rfl
 |true=>
  rw[ao yD,(aao h2.tr).1,dm,ae3,cx];cases hk:EJ k with
  |false=>rw[aj yD,ai4 hs2 h2 hk];rfl
  |true=>
   let hkx:k.table=x:=by rw[ato hk]at hr;let:=aj7.mp hr;show(fq.mp this).symm
   let hT2:bw (cw s (MM.BH T i)) x=aa (MM.BH T i):=by rw[ae5 (T2:=MM.BH T i) A rfl,aj rfl]
   let ok2:=hs2.of hT2;let W:bw (cw s (MM.BH T i)) k.table=aa (MM.BH T i):=by erw[hkx,hT2]
   let hT1':bw s k.table=aa T:=by erw[hkx,A]
   let hcnt:=ok2.cnt;let e:=f6;let hc2:=MM.ug hi;let tk:=MM.art A hi k;let sd2:=acv W hk;let sd1:=acv hT1' hk;let ne2:=λy hy=>ae2 ((aap W hk y).mp hy).1;let hw:(F4 ((BM (AX (a8 s k))).bind λitems=>(A6 (λd=>AI (AA .NotIn (.int (i:ai)) d) ((OS [d,.int (i:ai)]).map aa) (aa af)) items).map D.lst))=aa ((jm i (a8 s k)).map B7):=by change F4 ((A6 _ _).map D.lst)=_;rw[acg (q:=λb:ab ai=>!b.contains i) λb ζ=>by rw[bdg,cx,bba];cases b.contains i<;>rfl];delta jm;rw[el];rfl
   let hwl:(jm i (a8 s k)).length<=1000000:=by delta jm;erw[bt,jh (V2 _ _) hcn]
   let same:jm i (a8 s k)=a8 _ k->FE [.lst ((jm i (a8 s k)).map B7)]=aa _:=λq=>by erw[q,ae1 sd2 (ae0 sd2) (λy=>Iff.rfl) ne2]
   rw[ao yD,aam,hT2,j4,b5,hw,b5,dm,bdh,abi,cv,b5,acw];delta VN at tk;rw[hT1',W]at tk;let hbx:(k.table==x)=true:=by erw[hkx,gp x]
   clear hw;cases k with
   |next n c=>
    dsimp only at tk;rw[hbx,aj rfl,oq]at tk;rw[md,aj rfl,show WX (aa (.int 0)) (aa (.int (i:ai))) _=aa (.bl (decide (0<i/\i<(MM.BH T i).count)))from by change aa _=_;congr 2;rw[oj,cg,tq,tq,tq];constructor<;>(intro h;show⟨yL,yL⟩),cx];by_cases q:0<i/\i<(MM.BH T i).count
    .rw[gm q,oq]at tk;rw[gm q,aj rfl];let e1:AG E1 (aa (.int (i:ai))) (aa (.int 1))=aa (.int ((i-1:ai):ak)):=by change aa (D.int ((i:ak)-1))=_;congr 2;lia
     rw[e1,cv,cv,j4,cv,j4,show(D.lst [.tup [.int ((i-1:ai):ak),.int (i:ai)]])=AX [[i-1,i]]from rfl,cv,cv,cv,b5,
      ais ok2.fit.aaq h2.dp h2.tr hk (h2.cols hk W) (λb hb=>by rw[fq]at hb;subst hb;show .inr ⟨i-1,i,yL,q.2,rfl⟩),u7,VI];let eb:DR (MM.BH T i) (.next n c) [i-1,i]=!(c.holds (MM.BH T i).cols ((MM.BH T i).row (i-1)) ((MM.BH T i).row i)):=rfl;rw[eb];cases hh:c.holds (MM.BH T i).cols ((MM.BH T i).row (i-1)) ((MM.BH T i).row i)with
     |true=>rw[hh,ao yD]at tk;rw[ao yD];change AK (if((jm i _).map B7).length+0<=aw then(FE [.lst ((jm i (a8 s (.next n c))).map B7++[])]).map Out.ret else af)=_;erw[ip,bt,aj yL,d5,same tk]
     |false=>
      rw[hh,aj yD]at tk;rw[aj yD];change AK (if((jm i _).map B7).length+1<=aw then(FE [.lst _]).map Out.ret else af)=_;rw[<-fe,bt,aj yL,d5,<-tk];rw[<-tk]at sd2 ne2;show ae1 sd2 ?_ (λy=>?_) ne2
      .delta axg;erw[bkk,⟨ae0 (MM.acm sd1),yS,λa ha b hb z=>?_⟩];rw[fq]at hb;subst z;subst hb;show bz (MM.ack.mp ha) λb hb1 hb2 hb3=>?_;let⟨⟨j,hj1,rfl⟩,_⟩:=(aap hT1' hk b).mp hb1;rwa[df,qo,VC,sk]at hb2;let h3:i=iw i (j+1):=by let:=eh (λl:ab ai=>l.getD 1 0) hb3;show this
       delta iw at h3;k_lt h3<;>lia
      .erw[sh,fq,MM.aae,⟨λh=>h.elim .inr .inl,λh=>h.elim .inr .inl⟩]
    .rw[gi q,JO,ao yD]at tk;erw[gi q,ao yD,d5,same tk]
   |each n c=>dsimp only at tk;rw[hbx,aj rfl]at tk;rw[md];dsimp only;erw[ao yD,cx,ao yD,d5,same tk]
   |pairs n c=>dsimp only at tk;rw[hbx,aj rfl]at tk;rw[md];dsimp only;erw[ao yD,cx,ao yD,d5,same tk]
   |key n c=>dsimp only at tk;rw[hbx,aj rfl]at tk;rw[md];dsimp only;erw[ao (by decide),cx,ao (by decide),d5,same tk]
   |fixes n c d=>dsimp only at tk;rw[hbx,aj rfl]at tk;rw[md];dsimp only;erw[ao (by decide),cx,ao (by decide),d5,same tk]
   |any n c=>show nb hk
   |refers n c u d=>show nb hk
   |groups n c a l u=>show nb hk
def ai5{two}:∀(n)(t)(e),BE t<n->fb two t=aa e->t=e.tree two:=by
 intro n;induction n with
 |zero=>intro _ _ h _;lia
 |succ n I=>
  intro t e h he;obtain m|x|⟨s,x⟩|⟨x,y⟩|⟨x,y⟩:=e<;>first|show b7 (qc he) λa b j h1 h2=>?_;subst j|let⟨rfl,_⟩:=qc he|subst qc he
  .rfl
  .rfl
  .rfl
  iterate 2·rw[bny,<-I a x (dn h yS) h1,<-I b y (dn h yS) h2]
def atq{two:a4}{f:Tr->aw4->Prop}:∀{r:ab Tr}{l:ab aw4},sv two r=aa l->(∀u c,u∈r->g0 two u=aa c->u=c.tree two)->r=bkl two l
 |[],l,h,_=>by cases h;rfl
 |u::r,l,h,j=>by let⟨c,h1,h⟩:=ay h;let⟨q,h2,rfl⟩:=bo h;rw[bkl,<-j u c yS h1,<-atq (f:=f) h2 λv c W=>j v c yA]
def bdj{two}:∀(n)(t)(c),BE t<n->g0 two t=aa c->t=c.tree two:=by
 intro n;induction n with
 |zero=>intro _ _ h _;lia
 |succ n I=>
  intro t c h he;obtain⟨x,y⟩|⟨x,y⟩|x|l|l|x:=c<;>first|(show au (qd he) λr hl z=>?_;subst z)|let⟨u,rfl,q⟩:=qd he|show b7 (qd he) λu v j q W=>?_;subst j
  iterate 2·rw[aj9,<-ai5 _ u x (si _) q,<-ai5 _ v y (si _) W]
  .rw[aj9,<-ai5 _ u x (si _) q]
  iterate 2·rw[aj9,<-atq (f:=λζ ζ=>True) hl λu c hu=>I u c (dn h yA)]
  .rw[aj9,<-I u x (dn h yS) q]
def bdk(h:ku t=aa k):t=k.tree:=by
 obtain⟨n,x⟩|⟨n,x⟩|⟨n,x⟩|⟨n,x⟩|⟨n,cs⟩|⟨n,cs,ds⟩|⟨n,cs,u,ds⟩|⟨n,cs,a,lo,j⟩:=k<;>(first|let⟨c,rfl,q⟩:=jv h|let⟨rfl,W,q2⟩:=jv h|subst jv h);iterate 4·rw[bnz,<-bdj _ c x (si _) q]
 .rfl
 .rfl
 .rfl
 rfl
def ACN:VW->Prop
 |.up n=>1<=n
 |.of_ j=>1<=j.length/\j.length<=10
def ae6(h:tm t=aa k):t=k.tree/\ACN k:=by
 obtain _|_|_|⟨_|w|_,r⟩:=t<;>w_top h
 let key:(if(w==kx)=ae then(ib lc r).bind λws=>if 1<=ws.length/\ws.length<=bj5 then aa (.of_ ws)else af else af)=aa k->.list (.word w::r)=k.tree/\ACN k:=λh=>by
  k_lt h<;>w_top h
  ext hw;let⟨ws,h1,h⟩:=ay h;k_lt h<;>w_top h
  ext hl;cases h;erw[eq_of_beq hw,se h1,⟨rfl,hl⟩]
 obtain _|⟨n|_|_,_|_⟩:=r<;>try show key h
 change(if _ then _ else _)=_ at h;k_lt h<;>w_top h
 ext hw;clear key;cases h;rw[cg]at hw;erw[eq_of_beq hw.1,⟨rfl,(ff hw.2:1<=n)⟩]
def atr(h:y4 t=aa c):t=c.tree/\tm c.kind.tree=aa c.kind:=by
 obtain _|_|_|⟨_|_|_,_|⟨_,_|⟨_|m|_,_|_⟩⟩⟩:=t<;>w_top h
 .let⟨k,h1,rfl⟩:=bo h;let e:=(ae6 h1).1;subst e;show⟨rfl,h1⟩
 .change ite _ _ _=_ at h;k_lt h<;>w_top h
  ext hm;let⟨k,h1,rfl⟩:=bo h;let e:=(ae6 h1).1;subst e;erw[eq_of_beq hm,⟨rfl,h1⟩]
def bdl(h:VT t=aa c):t=c.tree:=by delta VT at h;k_lt h<;>first|(injection h with h;subst h;rfl)|lia
def ai6{f}{g:j->Tr}(hg:∀t a,f t=aa a->t=g a):∀{l}{as},ib f l=aa as->l=as.map g:=by
 intro l;induction l with
 |nil=>intro as h;cases h;rfl
 |cons t l I=>intro as h;let⟨a,h1,h⟩:=ay h;let⟨s,h2,rfl⟩:=bo h;rw[b9,<-hg t a h1,<-I h2]
def bdm{f}:∀{l}{as:ab j},ib f l=aa as->∀a,a∈as->∃t,t∈l/\f t=aa a:=by
 intro l;induction l with
 |nil=>intro as h a ha;cases h;trivial
 |cons t l I=>
  intro as h a ha;let⟨b,h1,h⟩:=ay h;let⟨s,h2,rfl⟩:=bo h;obtain rfl|ha:=df.mp ha;.walk
  .walk
def ats(h:y6 t=aa r):t=Q9 r:=by
 delta y6 at h;k_lt h;.rw[ai6 (λt a=>bdl) h];rfl
 lia
structure att(x:Tr)(T:gj):Prop where
 eq:x=T.tree
 c1:1<=T.cols.length
 c6:T.cols.length<=6
 r40:T.rows.length<=40
 kinds:∀c,c∈T.cols->tm c.kind.tree=aa c.kind
def atu(h:VU x=aa T):att x T:=by
 obtain _|_|_|⟨_|w|_,_|⟨_|t|_,_|⟨_|_|cs,rs⟩⟩⟩:=x<;>w_top h
 change ite _ _ _=_ at h;k_lt h<;>w_top h
 ext hw;let⟨cs',h1,h⟩:=ay h;let⟨rs',h2,h⟩:=ay h;k_lt h<;>w_top h
 ext hl;injection h with h;subst h;show⟨?_,hl.1.1,hl.1.2,hl.2,λc hc=>au (bdm h1 c hc) λt _ ht=>(atr ht).2⟩;.rw[eq_of_beq hw,ai6 (λt a h=>(atr h).1) h1,ai6 (λt a=>ats) h2];rfl
mutual
def PM:Tr->Prop
 |.num n=>n<=1000000
 |.word w=>i4 w=ae
 |.list l=>UB l
def UB:ab Tr->Prop
 |[]=>True
 |t::l=>PM t/\UB l
end
def ai7:∀{l},UB l->∀t,t∈l->PM t
 |u::l,h,t,j=>by
  obtain rfl|j:=df.mp j;.show h.1
  .show ai7 h.2 t j
def bdn(h:rf p=aa a):PM a:=by
 delta rf at h;k_lt h
 .k_lt h;.ext j;injection h with h;subst h;show j
  lia
 .k_lt h;.ext q;injection h with h;subst h;show q
  lia
mutual
def lv:Tr->ai
 |.num _=>1
 |.word _=>1
 |.list l=>C6 l
def C6:ab Tr->ai
 |[]=>0
 |t::l=>lv t+C6 l
end
def bdo(h:rf p=aa a):lv a=1:=by
 delta rf at h;k_lt h;iterate 2
  .k_lt h;.injection h with h;subst h;rfl
   lia
set_option tactic.hygienic true in
def ae7:∀(f d)(ps)(l)(rest),oy f d ps=aa (l,rest)->UB l/\C6 l+rest.length<=ps.length
 |0,_,_,_,_,h=>by show nn h
 |f+1,d,[],l,rest,h=>by cases h;show⟨trivial,b8 _⟩
 |f+1,d,p::r,l,rest,h=>by
  rw[ail]at h;k_lt h;.cases h;show⟨trivial,by change 0+_<=_;lia⟩
  .k_lt h;.cases d with
    |zero=>trivial
    |succ d=>
     dsimp at h;k_lt h;.ext l1 q s hq;let⟨⟨j,W⟩,hz,e⟩:=bo h;clear h;cases e;let h1:=ae7 f d r l1 _ hq;let h2:=ae7 f _ s j W hz;show⟨⟨h1.1,h2.1⟩,?_⟩;let e1:=h1.2;rw[d6]at e1;rw[d6];change C6 l1+C6 j+W.length<=_;lia
     .show nn h
   .let⟨a,ha,h⟩:=ay h;let⟨⟨j,W⟩,hz,e⟩:=bo h;clear h;cases e;let h1:=ae7 f d r j W hz;show⟨⟨bdn ha,h1.1⟩,?_⟩;rw[d6];change lv a+C6 j+W.length<=_;rw[bdo ha];lia
set_option tactic.hygienic true in
def atv(h:rg t=aa x):PM x/\lv x<=4000:=by
 delta rg at h;k_lt h
 .ext y hy;cases h;delta VY at hy;k_lt hy;.lia
  .ext hl;k_lt hy;.ext l hq;cases hy;let:=ae7 _ _ _ _ _ hq;show⟨this.1.1,?_⟩;let k1:=(acu t.length t).1;let:lv x+0+0<=(Q6 t.length t).length:=this.2;let:¬4000<t.length:=hl;lia
   lia
 lia
def ai8{two}:∀(n)(t)(e),BE t<n->fb two t=aa e->e.cols.length<=lv t:=by
 intro n;induction n with
 |zero=>intro _ _ h _;lia
 |succ n I=>
  intro t e h he;obtain m|x|⟨s,x⟩|⟨x,y⟩|⟨x,y⟩:=e<;>first|show b7 (qc he) λa b j h1 h2=>?_;subst j|let⟨rfl,_⟩:=qc he|subst qc he
  .simp[tf]
  .simp[tf]
  .simp[tf,lv,C6]
  iterate 2·let:=I a x (dn h yS) h1;let:=I b y (dn h yS) h2;rwa[tf,e9,lv,C6];lia
def bdp{two}:∀{r}{l},sv two r=aa l->(∀u c,u∈r->g0 two u=aa c->c.cols.length<=lv u)->(VO l).length<=C6 r:=by
 intro r;induction r with
 |nil=>intro l h _;cases h;show b8 _
 |cons u r I=>intro l h j;let⟨c,h1,h⟩:=ay h;let⟨q,h2,rfl⟩:=bo h;let W:=j u c yS h1;let e2:=I h2 λv c hv=>j v c yA;grind[VO,e9,lv,C6]
def bdq{two}:∀(n)(t)(c),BE t<n->g0 two t=aa c->c.cols.length<=lv t:=by
 intro n;induction n with
 |zero=>intro _ _ h _;lia
 |succ n I=>
  intro t c h he;obtain⟨x,y⟩|⟨x,y⟩|x|l|l|x:=c<;>first|(show au (qd he) λr hl z=>?_;subst z)|let⟨u,rfl,q⟩:=qd he|show b7 (qd he) λu v j q W=>?_;subst j
  iterate 2·let:=ai8 _ u x (si _) q;let:=ai8 _ v y (si _) W;rwa[mz,e9,lv,C6];lia
  .let:=ai8 _ u x (si _) q;simp[mz,lv,C6];lia
  iterate 2·let:=bdp hl λu c hu=>I u c (dn h (by simp[hu]));rwa[mz,lv,C6];lia
  .let:=I u x (dn h yS) q;simp[mz,lv,C6];lia
def acx:∀j:ab Bytes,C6 (j.map er)=j.length
 |[]=>rfl
 |w::j=>by change 1+C6 _=_;rw[acx j,d6];lia
def bdr(h:ku t=aa k):(C5 k).length<=lv t:=by
 obtain⟨n,x⟩|⟨n,x⟩|⟨n,x⟩|⟨n,x⟩|⟨n,cs⟩|⟨n,cs,ds⟩|⟨n,cs,u,ds⟩|⟨n,cs,a,lo,j⟩:=k<;>(first|let⟨c,rfl,q⟩:=jv h|let⟨rfl,W,q2⟩:=jv h|subst jv h);iterate 4·let:=bdq _ c x (si _) q;rwa[C5,lv,C6];lia
 .simp[C5,lv,C6,acx];lia
 .simp[C5,lv,C6,acx,e9];lia
 .simp[C5,lv,C6,acx];lia
 .clear h;cases a<;>simp[C5,lv,C6,acx]<;>lia
end CK
namespace CK
open PySem PySem.Spec PyProof.Rows L2 DL TL
def bds(g)(d):YE g d=(K2 "join" (aa (.str " ")) (AF ((BM d).bind λj=>(A6 (λx=>(g [x]).map aa) j).map D.lst) (aa []))).map Out.ret:=by rfl
def ai9(a b):S (a++b)=S a++S b:=by show aa0 ?_;rw[ub];change(a++b).map uz=a.map uz++b.map uz;simp
def acy(a):(S a).length=a.length:=by change(a.map uz).length=_;simp
def atw:∀l,JX " " (l.map λt=>S t.write)=S (jn l)
 |[]=>by rfl
 |[t]=>by rfl
 |t::u::l=>by let j:=atw (u::l);rw[join_eq]at j⊢;rwa[jn,show(_::jn _)=[32]++jn (u::l)from rfl,ai9,<-j];show aa0 ?_;change tl (S t.write++" "++ZV " " _)=_;rwa[ub,jl];rfl
def aja:∀l:ab Tr,(l.map λt=>t.write.length).sum+l.length<=(jn l).length+1
 |[]=>yD
 |[t]=>by simp[jn]
 |t::u::l=>by let j:=aja (u::l);grind[jn]
def bdt(h:t∈l):t.write.length<=(jn l).length:=by
 let h1:=aja l;let:∀(l:ab Tr),t∈l->t.write.length+l.length<=(l.map λt=>t.write.length).sum+l.length:=by intro l h;induction l<;>grind
 grind
mutual
def UC:Tr->Prop
 |.num n=>n<10^8
 |.word _=>True
 |.list l=>PN l
def PN:ab Tr->Prop
 |[]=>True
 |t::l=>UC t/\PN l
end
def atx:∀{l},PN l->∀t,t∈l->UC t
 |u::l,h,t,j=>by
  obtain rfl|j:=df.mp j;.show h.1
  .show atx h.2 t j
def bdu(n:ai):(M7 (toString (n:ak)))=S (axi n):=by show aa0 ?_;rw[ana];change _=(((JY 10 n).map λc=>VX c.toNat)).map uz;erw[el,jw λc hc=>?_];let hd:=a1f n c.toNat (qp hc);rw[aw1,UInt8.toNat_ofNat'];lia
mutual
theorem aty:∀n t,2*BE t+1<=n->UC t->t.write.length<=16000000->IH n [AE t]=aa (.str (S t.write))
 |0,_,h,_,_=>by omega
 |n+1,.num m,h,hn,hl=>by change AK (YF (GQ n) (.int (m:ai)))=_;change AK ((HX [.int (m:ai)]).map Out.ret)=_;rw[d5];change(if((m:ai):ak).natAbs.log2<1920 then aa (D.str (toString ((m:ai):ak)))else af)=_;rw[aj (as0 hn)];change aa (D.str (M7 (toString ((m:ai):ak))))=_;rw[bdu];rfl
 |n+1,.word w,h,_,_=>by rfl
 |n+1,.list l,h,hn,hl=>by
  let hw:(bn0 l).write=40::(jn l++[41]):=by rw[V3]
  rw[hw,d6,e9,qr]at hl;let hd:BE (.list l)=CY l+1:=rfl;let e:=f6;let ih:=atz n l (.tup (AV l)) rfl (by omega) hn (by omega);change AK (YF (GQ n) (.tup (AV l)))=_;change AK ((AG BI (AG BI (aa (.str "(")) (GQ n [.tup (AV l)])) (aa (.str ")"))).map Out.ret)=_;rw[ih,d5,dm];let a1:BI (.str "(") (.str (S (jn l)))=aa (.str ("("++S (jn l))):=by change(if _ then _ else _)=_;rw[aj (by rw[acy];change 1+_<=_;omega)]
  let a2:BI (.str ("("++S (jn l))) (.str ")")=aa (.str ("("++S (jn l)++")")):=by change(if _ then _ else _)=_;rw[aj (by rw[vk,ub,e9,<-vk,<-vk,acy];change 1+_+1<=_;omega)]
  rw[a1,dm,a2,hw,show(40::(jn l++[41]):Bytes)=[40]++(jn l++[41])from rfl,ai9,ai9];congr 2;show aa0 ?_;rw[ub,ub,ub,ub,jl];rfl
theorem atz:∀n l d,BM d=aa (AV l)->2*CY l+2<=n->PN l->(jn l).length<=16000000->GQ n [d]=aa (.str (S (jn l)))
 |0,_,_,_,h,_,_=>by omega
 |n+1,l,d,hd,h,hn,hl=>by change AK (YE (IH n) d)=_;rw[bds,d5,hd,b5,nv,comp_map (p:=λt=>.str (S (V3 t))) λt ht=>by rw[aty n t (by let:=aqf ht;omega) (atx hn t ht) (by let:=bdt ht;omega)];rfl];change(strsOf (l.map λt=>D.str (S t.write))).bind (λys=>if(ys.map (·.length)).sum+ys.length*1<=16777216 then aa (D.str (JX " " ys))else af)=_;rw[show(l.map λt=>D.str (S t.write))=(l.map λt=>S t.write).map D.str by rw[el];rfl,adv,b5,aj (by rw[el,bt,Nat.mul_one];let:=aja l;rw[show((λx:Str=>x.length)∘λt:Tr=>S t.write)=λt:Tr=>t.write.length from funext λt=>acy _];omega),atw]
end
end CK
namespace CK
open PySem PySem.Spec PyProof.Rows L2 DL TL
section
variable(A:ab D->ah D)
noncomputable def bG:DL.Ctx:=Cq.c (YB A)
noncomputable def b1:D->ab Sl->ah Out:=D3 (bG A) (AO (top 93)) 21 (D9 (BC (top 93)) 2)
def UD(ξ:ab Sl):ah Out:=BP (bG A) (AO (top 93)) 21 ξ ((BC (top 93)).drop 3) (λj=>af)
def bdv(q nr):AB0 A q nr=AI (BA (A [q,nr])) (aa (.ret (.lst [.int (-3)])))
 ((F4 ((AF ((AF (AG AB (A8 FL "breakers" (aa q)) (aa nr)) (aa [])).bind AM) (aa [])).map D.lst)).bind λl=>((AG AB (A8 FL "breakers" (aa q)) (aa nr)).bind BM).bind λj=>BO (AU (b1 A) j [.val q,.val nr,.own l,.no]) (UD A)):=by rfl
def bdw(q nr d)(l)(X):b1 A d [.val q,.val nr,.own l,X]=(AM [d]).bind λn=>if l.length<aw then(F5 (aa d)).bind λj=>if(l++[n]).length+j.length<=aw then aa (.next [.val q,.val nr,.own (l++[n]++j),.val d])else af else none:=by rfl
def bdx(j nr)(l)(X):UD A [.val j,.val nr,.own l,X]=aa (.ret (.lst l)):=by rfl
end
noncomputable def alG:DL.Ctx:=YC.c
def PQ:D->ab Sl->ah Out:=D3 alG (AO (top 94)) 21 (D9 (BC (top 94)) 2)
def PR(ξ:ab Sl):ah Out:=BP alG (AO (top 94)) 21 ξ ((BC (top 94)).drop 3) (λj=>af)
def bdy(q lv):AB1 q lv=AI (AA .NotIn lv (.tup [.int 0,.int 1,.int 2])) (aa (.ret (.lst [.int (-7)])))
 ((IU (A8 FL "claims" (aa q))).bind λj=>BO (AU PQ j [.val q,.val lv,.own [.int 0],.no,.no]) PR):=by rfl
def bdz(q lv i c)(l)(X Y):PQ (.tup [i,c]) [.val q,.val lv,.own l,X,Y]=
 AI (A0 (AG (AA .GtE) (A8 FL "level" (aa c)) (aa lv)) (AG (AA .Gt) ((AF (AG AB (A8 FL "breakers" (aa q)) (aa i)) (aa [])).bind AM) (aa (.int 0))))
  ((bump l 0 (aa (.int 1))).bind λW=>(F5 ((AF (aa i) (AF (A8 FL "level" (aa c)) (aa []))).map D.lst)).bind λj=>if W.length+j.length<=aw then aa (.next [.val q,.val lv,.own (W++j),.val i,.val c])else af)
  (aa (.next [.val q,.val lv,.own l,.val i,.val c])):=by rfl
def bd0(j lv)(l)(X Y):PR [.val j,.val lv,.own l,X,Y]=aa (.ret (.lst l)):=by rfl
noncomputable def owG:DL.Ctx:=YD.c
def PU:D->ab Sl->ah Out:=D3 owG (AO (top 95)) 22 (D9 (BC (top 95)) 1)
def PV(ξ:ab Sl):ah Out:=BP owG (AO (top 95)) 22 ξ ((BC (top 95)).drop 2) (λj=>af)
def bd1(q o):AB2 q o=(IU (A8 FL "claims" (aa q))).bind λj=>BO (AU PU j [.val q,.val o,.own [.int 0],.no,.no]) PV:=by rfl
def bd2(q o i c)(l)(X Y):PU (.tup [i,c]) [.val q,.val o,.own l,X,Y]=
 AI (AG (AA .Eq) (A8 FL "owner" (aa c)) (aa o))
  ((bump l 0 (aa (.int 1))).bind λW=>(F5 ((AF (aa i) (AF ((AF (AG AB (A8 FL "breakers" (aa q)) (aa i)) (aa [])).bind AM) (aa []))).map D.lst)).bind λj=>if W.length+j.length<=aw then aa (.next [.val q,.val o,.own (W++j),.val i,.val c])else af)
  (aa (.next [.val q,.val o,.own l,.val i,.val c])):=by rfl
def bd3(j o)(l)(X Y):PV [.val j,.val o,.own l,X,Y]=aa (.ret (.lst l)):=by rfl
noncomputable def tbG:DL.Ctx:=YA.c
def UE:D->ab Sl->ah Out:=D3 tbG (AO (top 78)) 22 (D9 (BC (top 78)) 1)
def PX(ξ:ab Sl):ah Out:=BP tbG (AO (top 78)) 22 ξ ((BC (top 78)).drop 2) (λj=>af)
def bd4(q bf bh):ABX q bf bh=(IU (aa bh)).bind λj=>BO (AU UE j [.val q,.val bf,.val bh,.own [],.no,.no,.no,.no]) PX:=by rfl
def bd5(j bf bh i b)(l)(X Y Z W):UE (.tup [i,b]) [.val j,.val bf,.val bh,.own l,X,Y,Z,W]=
 (A0 (AG (AA .Lt) (aa i) (AM [bf])) (AG (AA .Gt) ((AF (AB bf i) (aa [])).bind AM) (aa (.int 0)))).bind λw=>
  (AG (AA .Gt) (AM [b]) (aa (.int 0))).bind λq=>
   AI (AA .NotEq w q) (((AF (aa j) (AF (aa i) (AF (AI (aa q) (aa (.str "broken")) (aa (.str "held"))) (aa [])))).map D.tup).bind λd=>if l.length<aw then aa (.next [.val j,.val bf,.val bh,.own (l++[d]),.val i,.val b,.val w,.val q])else af)
    (aa (.next [.val j,.val bf,.val bh,.own l,.val i,.val b,.val w,.val q])):=by rfl
def bd6(j bf bh)(l)(X Y Z W):PX [.val j,.val bf,.val bh,.own l,X,Y,Z,W]=aa (.ret (.lst l)):=by rfl
def AZ(n:ai):D:=.int (n:ak)
def BV(l:ab ak):D:=.lst (l.map D.int)
def B2(k:jo):D:=.obj "Claim" ["level","owner","tree"] [AZ k.level,.str (S k.owner),AE k.claim.tree]
def DO(ks:ab jo):D:=.lst (ks.map B2)
def C0(ks:ab jo):D:=.lst (ks.map λk=>AX k.breakers)
def GD(b:NO)(i:ai):D:=.lst ((kz b i).map AZ)
def DP(b:NO):D:=.lst ((e6 b.kept.length).map (GD b))
def GF(t:NP):D:=AE (J7 t)
def C7(ts:ab NP):D:=.lst (ts.reverse.map GF)
def DE(b:NO):D:=.tup [BN b.tables,DO b.kept,C0 b.kept,DP b,C7 b.turns,AZ b.day]
def EC(s:jq):ab D:=[BN s.now.tables,DO s.now.kept,C0 s.now.kept,DP s.now,C7 s.now.turns,AZ s.now.day,.lst (s.earlier.reverse.map DE)]
def DT(s:jq):D:=.obj "Keeper" kn (EC s)
def bd7(s):A8 FL "tables" (aa (DT s))=aa (BN s.now.tables):=by rfl
def bd8(s):A8 FL "claims" (aa (DT s))=aa (DO s.now.kept):=by rfl
def ae8(s):A8 FL "breakers" (aa (DT s))=aa (C0 s.now.kept):=by rfl
def at0(s):A8 FL "histories" (aa (DT s))=aa (DP s.now):=by rfl
def bd9(s):A8 FL "turns" (aa (DT s))=aa (C7 s.now.turns):=by rfl
def YX:VW->Prop
 |.up n=>n<=1000000
 |.of_ j=>j.length<=10/\∀w,w∈j->i4 w=ae
structure ui(T:gj):Prop where
 ok:YW T
 nm:i4 T.name=ae
 c6:T.cols.length<=6
 cn:∀c,c∈T.cols->i4 c.name=ae
 ck:∀c,c∈T.cols->YX c.kind
structure at1(s:sy)(k:jo):Prop where
 cl:uh s k.claim.tree k.claim
 br:k.breakers=a8 s k.claim
 ow:i4 k.owner=ae
 lv:k.level<=2
structure mh(n:ai)(b:NO):Prop where
 tabs:∀T,T∈b.tables->ui T
 names:(b.tables.map λT=>T.name).Nodup
 t3:b.tables.length<=3
 uj:b.kept.length<=12
 kept:∀k,k∈b.kept->at1 b.tables k
 day:b.day<=n
 turns:b.turns.length<=12*n
 days:b.days.length<=n
 tc:∀t,t∈b.turns->t.day<=n/\t.claim<12
 dl:∀d,d∈b.days->wa d<=b.kept.length
structure ik(n:ai)(s:jq):Prop where
 now:mh n s.now
 old:∀b,b∈s.earlier->mh n b
 qe:s.earlier.length<=10
def mh.mono(h:mh m b)(q:m<=n):mh n b:=⟨h.tabs,h.names,h.t3,h.uj,h.kept,by let:=h.day;lia,by let:=h.turns;lia,by let:=h.days;lia,λt j=>⟨by let:=(h.tc t j).1;lia,(h.tc t j).2⟩,h.dl⟩
def mh.st(h:mh n b):GZ b.tables:=λT j=>(h.tabs T j).ok
def at4(j:i4 w=ae):decide (Tx x=S w)=(x==w):=by
 rw[oj,tq,qh];let inj:∀b c:NM,y9 c=ae->sgn b=c.toNat->b=c:=λb c=>by
  let h1:=mf (P:=λc=>y9 c=ae->c.toNat≠32/\c.toNat≠63) (by decide+kernel) c;intro hc he;obtain q|q|q:=(mf (P:=λb=>sgn b=32\/sgn b=63\/sgn b=b.toNat) (by decide+kernel) b);.rw[he]at q;show cj q (h1 hc).1
  .rw[he]at q;show cj q (h1 hc).2
  .rw[q]at he;show ajr.mp he
 constructor
 .intro h;let e:x.map sgn=w.map uz:=by let:=eh (λs:Str=>s.cps.toList) h;simpa[Tx,S]using this
  let W:∀c,c∈w->y9 c=true:=by
   intro c hc;clear h;cases w with
   |nil=>cases hc
   |cons a r=>
    rwa[i4,cg]at j;obtain rfl|hc:=df.mp hc;.delta y9;rw[j.1];rfl
    .show mr.mp j.2.1 c hc
  clear h j;induction x generalizing w with
  |nil=>cases w<;>grind
  |cons a r ih=>cases w<;>grind
 .intro h;subst h;show aan j
def ajb(x):∀s,(∀T,T∈s->i4 T.name=ae)->CT (s.map λT=>.inr (S T.name)) (s.map BF) (.inr (Tx x))=(bw s x).map BF
 |[],_=>rfl
 |T::s,h=>by
  let j:=ajb x s λU q=>h U yA;let e:(xu (S T.name):Key)=.inr (Tx x)↔(T.name==x)=true:=by grind[at4]
  delta bw at j⊢;rw[b9,b9,CT];grind
section
variable{n:ai}{b:NO}
def ajc(h:mh n b)(x):AB (BN b.tables) (.str (Tx x))=(bw b.tables x).map BF:=ajb x _ λT j=>(h.tabs T j).nm
def ajd(h:mh n b)(x):AA .NotIn (.str (Tx x)) (BN b.tables)=aa (.bl (!(bw b.tables x).isSome)):=by change aa (D.bl _)=_;rw[ajb x _ λT j=>(h.tabs T j).nm,om]
end
section
variable{n:ai}{s:jq}
def ae9(l):(J8 l).map D.int=l.map AZ:=by delta J8;rw[el];rfl
def bea(h:ik n s):OX [DT s]=aa (BV (gf s.now .status).2):=by change AK _=_;delta ABZ;simp[d5];change AG BI ((AF (AM [.lst _]) _).map D.lst) ((A6 _ _).map D.lst)=_;rw[oa,bt,cv,comp_map λk j=>by change(AM [.lst _]).map aa=_;rw[oa,bt];rfl];let:=h.now.uj;let e:=f6;change(if _ then _ else _)=_;rw[aj (by grind)];change aa (D.lst (AZ s.now.kept.length::s.now.kept.map λk=>AZ k.breakers.length))=aa (D.lst ((J8 _).map D.int));simp[ae9]
def aje(s)(k):F9 [DT s,.int k]=aa (.bl (decide (0<=k)&&decide (k<s.now.kept.length))):=by change WY (aa (.int 0)) (aa (.int k)) (AM [.lst _])=_;rw[oa,bt];rfl
def ajf(ks:ab jo)(k:ak):((decide (0<=k)&&decide (k<ks.length))=ag/\(if k<0 then af else ks[k.toNat]?)=af)\/((decide (0<=k)&&decide (k<ks.length))=ae/\∃i x,k=(i:ai)/\k.toNat=i/\i<ks.length/\ks[i]?=aa x/\(if k<0 then af else ks[k.toNat]?)=aa x):=by
 by_cases h:k<0;.show .inl ⟨by rw[gi yL];rfl,aj h⟩
 rw[ao h,gm yL];by_cases g:k.toNat<ks.length;.show .inr ⟨gm yL,k.toNat,ks[k.toNat],yL,rfl,g,gz g,gz g⟩
 walk
def afa(s:jq)(j:s.now.kept[i]?=aa x):AG AB (aa (C0 s.now.kept)) (aa (.int (i:ai)))=aa (AX x.breakers):=by change BQ _ i=_;grind[p8]
def at5(s:jq)(hi:i<s.now.kept.length):AG AB (aa (DP s.now)) (aa (.int i))=aa (GD s.now i):=by change BQ _ i=_;grind[p8]
def xm(l):AM [AX l]=aa (AZ l.length):=by change AM [.lst _]=_;rw[oa,bt];rfl
def beb(j nr):∀(bs:ab (ab ai))(acc)(X),acc.length+(bs.flatMap λb=>b.length::b).length<=aw->
 BO (AU (b1 F9) (bs.map B7) [.val j,.val nr,.own (acc.map AZ),X]) (UD F9)=aa (.ret (.lst ((acc++bs.flatMap λb=>b.length::b).map AZ))):=by
 intro bs;induction bs with
 |nil=>intro acc X _;change UD F9 [.val j,.val nr,.own _,X]=_;rw[bdx,axj,ip]
 |cons b bs I=>
  intro acc X h;rw[tj,e9,d6]at h;rw[b9,AU,bdw];change BO (match((AM [.tup _]).bind λn=>if(acc.map AZ).length<aw then(if(acc.map AZ++[n]).length+(b.map λn=>D.int _).length<=aw then aa (Out.next [.val j,.val nr,.own _,.val _])else af)else af)with
   |some (Out.next ξ')=>AU _ _ ξ'
   |some (Out.ret r)=>aa (Out.ret r)
   |none=>af) _=_;rw[show AM [.tup _]=aa (AZ b.length)by change aa _=_;rw[bt];rfl,b5,bt,aj yL,e9,bt,bt,qr,aj yL,tj,<-jl,<-(I _ _ (by grind)),fe,jl];rfl
def bec(h:ik n s)(k)(hl:(gf s.now (.breakers k)).2.length<=10000000):OY [DT s,.int k]=aa (BV (gf s.now (.breakers k)).2):=by
 change AK _=_;rw[bdv,aje,lm,cx,ae8];let e:=f6;let hd:(gf s.now (.breakers k)).2=(match(if k<0 then af else s.now.kept[k.toNat]?)with|none=>[-3]|some x=>axk x.breakers):=rfl;rw[hd]at hl⊢;obtain⟨q,W⟩|⟨q,i,x,rfl,W,q3,q4,q5⟩:=ajf s.now.kept k;.rw[q,W];rfl
 .rw[q5]at hl⊢;rw[q,ao yD,afa s q4,cv,b5,xm];change AK (BO (AU _ _ [.val _,.val _,.own ([x.breakers.length].map AZ),.no]) _)=_;let j:=hl;let hl3:=by unfold axk axl at j;show j
  rw[beb _ _ _ _ _ (by grind)];change aa _=aa (D.lst _);unfold axk axl;rw[el];rfl
end
section
variable{n:ai}{s:jq}
def at6(v):AA .NotIn (.int v) (.tup [.int 0,.int 1,.int 2])=aa (.bl (decide (v<0\/RA<=v))):=by change aa (D.bl _)=_;congr 2;let j:RA=3:=rfl;rw[oj,tq,j,ajo];lia
def at7(c)(l):DL.bump (.int c::l) 0 (aa (.int 1))=aa (.int (c+1)::l):=by
 let:DU (D.int c::l).length 0=aa 0:=by simp[DU]
 delta DL.bump;walk
def at8{j:Type}{l:ab j}{x}(h:l[i]?=aa x):l.drop i=x::l.drop (i+1):=by grind[yi]
def PY(v:ak)(x:jo×ai):Bool:=x.1.broken&&decide (v.toNat<=x.1.level)
def AFR(x:jo×ai):ab Nat:=[x.2,x.1.level]
def AFS(x:jo×ai):ab Nat:=[x.2,x.1.breakers.length]
def len_pos(l:ab (ab ai)):decide (0<(l.length:ak))=!l.isEmpty:=by cases l<;>simp
def bed(v)(hv:0<=v)(h12:s.now.kept.length<=12):∀(m i)(c)(acc)(X Y),i+m=s.now.kept.length->acc.length<=2*i->
 BO (AU PQ (CM i ((s.now.kept.drop i).map B2)) [.val (DT s),.val (.int v),.own ((c::acc).map AZ),X,Y]) PR=
  aa (.ret (.lst (((c+(((s.now.kept.drop i).zipIdx i).filter (PY v)).length)::(acc++(((s.now.kept.drop i).zipIdx i).filter (PY v)).flatMap AFR)).map AZ))):=by
 intro m;induction m with
 |zero=>intro i c acc X Y hi _;let:s.now.kept.drop i=[]:=Q7 yL;rw[this];rwa[bd0,bkm,VI,axj,ip];rfl
 |succ m I=>
  intro i c acc X Y hi ha;let hlt:i<s.now.kept.length:=yL;let hx:=gz hlt;generalize s.now.kept[i]'hlt=x at hx;let e:=f6;rw[at8 hx,b9,CM,AU,bdz,ae8];rwa[show A8 FL "level" (aa (B2 x))=aa (AZ x.level)from rfl,dm,afa s hx,cv,b5,xm,dm,show AZ x.level=.int ((x.level:ai):ak)from rfl,aeh,show AZ x.breakers.length=.int (_:ak)from rfl,la,len_pos,md];rw[axm,u7];let hp:PY v (x,i)=(decide (v<=((x.level:ai):ak))&&!x.breakers.isEmpty):=by unfold PY V4;rw[Bool.and_comm,show decide _=decide (v<=((x.level:ai):ak))from yx.mpr yL]
  rw[hp];let tt:(if decide (v<=((x.level:ai):ak))=ae then aa (D.bl (!x.breakers.isEmpty))else aa (D.bl ag))=aa (.bl (decide (v<=((x.level:ai):ak))&&!x.breakers.isEmpty)):=by cases decide (v<=_)<;>rfl
  rw[tt,cx];cases(decide (v<=_)&&!x.breakers.isEmpty)with
  |true=>
   rw[aj rfl,aj rfl];change BO (match(DL.bump (.int ((c:ai):ak)::acc.map AZ) 0 _).bind (λl'=>if l'.length+([AZ i,AZ x.level]:ab D).length<=aw then aa (Out.next [.val (DT s),.val (.int v),.own _,.val (AZ i),.val (B2 x)])else af)with
    |some (Out.next ξ')=>AU PQ _ ξ'
    |some (Out.ret r)=>aa (Out.ret r)
    |none=>af) PR=_;rw[at7,b5,aj (by simp;lia)];erw[d6,tj,show c+_=c+1+(((s.now.kept.drop (i+1)).zipIdx (i+1)).filter (PY v)).length by lia,<-jl,VP ?_ (I (i+1) (c+1) (acc++[i,x.level]) (.val (AZ i)) (.val (B2 x)) yL (by simp;lia))];rw[b9,fe];rfl
  |false=>show I (i+1) c acc _ _ yL yL
def bee(h:ik n s)(v):LS [DT s,.int v]=aa (BV (gf s.now (.alerts v)).2):=by
 change AK _=_;rw[bdy,at6,cx,bd8];delta gf;by_cases q:v<0\/RA<=v;.rw[gm q];dsimp;rw[aj q];rfl
 .rw[gi q];dsimp;rw[ao q];change AK (BO (AU PQ (CM 0 ((s.now.kept.drop 0).map B2)) [.val _,.val _,.own ((0::[]).map AZ),.no,.no]) PR)=_;rw[bed v yL h.now.uj s.now.kept.length 0 0 [] .no .no yL (b8 _)];change aa _=aa (D.lst _);rw[ae9,ND];rfl
def bef(o)(how:∀k,k∈s.now.kept->i4 k.owner=ae)(h12:s.now.kept.length<=12):∀(m i)(c)(acc)(X Y),i+m=s.now.kept.length->acc.length<=2*i->
 BO (AU PU (CM i ((s.now.kept.drop i).map B2)) [.val (DT s),.val (.str (Tx o)),.own ((c::acc).map AZ),X,Y]) PV=
  aa (.ret (.lst (((c+(((s.now.kept.drop i).zipIdx i).filter λx=>x.1.owner==o).length)::(acc++(((s.now.kept.drop i).zipIdx i).filter λx=>x.1.owner==o).flatMap AFS)).map AZ))):=by
 intro m;induction m with
 |zero=>intro i c acc X Y hi _;let:s.now.kept.drop i=[]:=Q7 yL;rw[this];rwa[bd3,bkm,VI,axj,ip];rfl
 |succ m I=>
  intro i c acc X Y hi ha;let hlt:i<s.now.kept.length:=yL;let hx:=gz hlt;generalize s.now.kept[i]'hlt=x at hx;let e:=f6;rw[at8 hx,b9,CM,AU,bd2,ae8];rw[show A8 FL "owner" _=aa (.str (S x.owner))from rfl,dm,afa s hx,cv,b5,xm];rw[show AA .Eq _ (.str (Tx o))=aa (.bl (x.owner==o))from by change aa _=_;congr 2;rw[yx.mpr ⟨Eq.symm,Eq.symm⟩,at4 (how x (QL hx)),ajs],cx];rw[axm,u7];cases(x.owner==o)with
  |true=>
   rw[aj rfl,aj rfl];change BO (match(DL.bump (.int ((c:ai):ak)::acc.map AZ) 0 _).bind (λl'=>if l'.length+([AZ i,AZ x.breakers.length]:ab D).length<=aw then aa (Out.next [.val (DT s),.val (.str (Tx o)),.own _,.val (AZ i),.val (B2 x)])else af)with
    |some (Out.next ξ')=>AU PU _ ξ'
    |some (Out.ret r)=>aa (Out.ret r)
    |none=>af) PV=_;rw[at7,b5,aj (by simp;lia)];erw[d6,tj,show c+_=c+1+(((s.now.kept.drop (i+1)).zipIdx (i+1)).filter λx=>x.1.owner==o).length by lia,<-jl,VP ?_ (I (i+1) (c+1) (acc++[i,x.breakers.length]) (.val (AZ i)) (.val (B2 x)) yL (by simp;lia))];rw[b9,fe];rfl
  |false=>show I (i+1) c acc _ _ yL yL
def beg(h:ik n s)(o):LU [DT s,.str (Tx o)]=aa (BV (gf s.now (.owned o)).2):=by change AK _=_;rw[bd1];change AK (BO (AU PU (CM 0 ((s.now.kept.drop 0).map B2)) [.val _,.val _,.own ((0::[]).map AZ),.no,.no]) PV)=_;rw[bef o (λk j=>(h.now.kept k j).ow) h.now.uj s.now.kept.length 0 0 [] .no .no yL (b8 _)];change aa _=aa (D.lst _);delta gf;rw[ae9,ND];rfl
def beh(h:ik n s)(hn:n<=1000)(k):LV [DT s,.int k]=aa (BV (gf s.now (.history k)).2):=by
 change AK _=_;delta AB3;rw[aje,lm,cx,at0];let e:=f6;let hd:(gf s.now (.history k)).2=(match(if k<0 then af else s.now.kept[k.toNat]?)with|none=>[-3]|some x=>J8 _):=rfl;rw[hd];clear hd;obtain⟨j,q⟩|⟨j,i,x,rfl,q,W,q4,q5⟩:=ajf s.now.kept k;.rw[j,q];rfl
 .rw[q5,j,ao yD,at5 s W,cv,b5,d5];let hl:(kz s.now i).length<=n:=by delta kz;erw[J9,jh (axn _ _) h.now.days]
  change AG BI ((AF (AM [.lst _]) _).map D.lst) _=_;rw[oa,bt];change(if[D.int _].length+((kz s.now i).map AZ).length<=aw then _ else _)=_;rw[aj (by grind)];change aa _=aa (D.lst _);rw[ae9];rfl
def bei(l:ab ai):AB (.lst (l.map AZ)) (.int (-1))=l.getLast?.map AZ:=by
 change BQ _ _=_;unfold BQ DU;rw[bt,ao yL];cases h:l with
 |nil=>rfl
 |cons a r=>rw[bkn,d6,aj yL,b5,i9];congr 2;lia
def bej(h:ik n s)(k p):OZ [DT s,.int k,.int p]=aa (BV (gf s.now (.drift k p)).2):=by
 change AK _=_;delta AB4;rwa[aje,lm,at0,ae8,xg,la,nz];let hd:(gf s.now (.drift k p)).2=if p<0\/1000<p then[-7]else(match(if k<0 then af else s.now.kept[k.toNat]?)with|none=>[-3]|some x=>(match(kz s.now k.toNat).getLast? with
  |none=>[-9]
  |some n=>J8 [if x.breakers.length<=n+p.toNat/\n<=x.breakers.length+p.toNat then 1 else 0,n,x.breakers.length])):=by delta gf;dsimp only;split<;>rfl
 rw[hd];by_cases hp:p<0\/1000<p
 .rw[aj hp];by_cases h1:p<0;.rw[gm h1,aj rfl];rfl
  .rw[gi h1,ao yD,gm (show 1000<p by omega)];rfl
 .rw[ao hp,gi (show¬p<0 by omega),ao yD,gi (show¬1000<p by omega),cx,ao yD,cx];clear hd;obtain⟨q1,q2⟩|⟨q1,i,x,rfl,q2,q3,q4,q5⟩:=ajf s.now.kept k;.rw[q1,q2,aj yD];rfl
  .rw[q5,q1,ao yD,at5 s q3,b5,afa s q4];rw[q2];change AK (AI (AG (AA .Eq) (AM [.lst _]) _) _ (((AF _ (aa [])).bind AM).bind λc=>(((AF (AI (AG (AA .LtE) ((AF (AG E1 (aa c) (AB (.lst _) (.int (-1)))) (aa [])).bind N9) _) _ _) (AF (AB (.lst _) (.int (-1))) (aa [c]))).map D.lst).map Out.ret)))=_;rw[oa,bt,dm,vt,cx,bei];cases hh:(kz s.now i).getLast? with
   |none=>let:=List.getLast?_eq_none_iff.mp hh;rw[this];rfl
   |some m=>
    let hne:kz s.now i≠[]:=λq=>by rw[q]at hh;show nn hh
    rw[ao (by simp;omega),cv,b5,xm,b5,j4,dm];change AK (((AF (AI (aa _) _ _) _).map D.lst).map Out.ret)=_;rw[cx,d5];let hq:decide ((if((x.breakers.length:ai):ak)-((m:ai):ak)<0 then-(((x.breakers.length:ai):ak)-((m:ai):ak))else((x.breakers.length:ai):ak)-((m:ai):ak))<=p)=decide (x.breakers.length<=m+p.toNat/\m<=x.breakers.length+p.toNat):=by show yx.mpr ?_;split<;>constructor<;>intro z<;>omega
    rw[hq];by_cases z:x.breakers.length<=m+p.toNat/\m<=x.breakers.length+p.toNat;.rw[gm z,aj rfl];dsimp only;rw[aj z];rfl
    .rw[gi z,ao yD];dsimp only;rw[ao z];rfl
end
mutual
def EK:Tr->Prop
 |.num n=>n<10^8
 |.word w=>w.length<=20
 |.list l=>PZ l
def PZ:ab Tr->Prop
 |[]=>True
 |t::l=>EK t/\PZ l
end
mutual
def nd:Tr->ai
 |.num _=>1
 |.word _=>1
 |.list l=>GG l+1
def GG:ab Tr->ai
 |[]=>0
 |t::l=>nd t+GG l
end
def acz(h:∀t,t∈l->EK t):PZ l:=by
 induction l with
 |nil=>trivial
 |cons a r j=>show⟨h a yS,j λt q=>h t yA⟩
def ac0(h:∀t,t∈l->nd t<=c):GG l<=c*l.length:=by
 induction l with
 |nil=>show b8 _
 |cons a r j=>let h1:=h a yS;let h2:=j λt q=>h t yA;rw[d6];change nd a+GG r<=_;lia
def ac1(h:∀t,t∈l->BE t<=c):CY l<=c:=by
 induction l with
 |nil=>show gv _
 |cons a r j=>let h1:=h a yS;let h2:=j λt q=>h t yA;change max _ _<=c;lia
def bek(h:n<10^8):(axi n).length<=8:=by let:=a1g yS h;grind[HS,axi]
mutual
theorem ajg:∀t:Tr,EK t->t.write.length+1<=23*nd t
 |.num n,h=>by rw[V3];let:=bek h;change _<=23*1;omega
 |.word w,h=>by rw[V3];let:w.length<=20:=h;change _<=23*1;omega
 |.list l,h=>by rw[V3,d6,e9,qr];let:=ajh l h;change _<=23*(GG l+1);omega
theorem ajh:∀l:ab Tr,PZ l->(jn l).length<=23*GG l
 |[],_=>by erw[jn,gv _]
 |[t],h=>by rw[jn];let:=ajg t h.1;change _<=23*(nd t+0);omega
 |t::u::l,h=>by let h1:=ajg t h.1;let h2:=ajh (u::l) h.2;rw[jn,e9,d6];change _<=23*(nd t+GG (u::l));omega
end
mutual
theorem at9:∀t:Tr,EK t->UC t
 |.num n,h=>h
 |.word w,h=>trivial
 |.list l,h=>aji l h
theorem aji:∀l:ab Tr,PZ l->PN l
 |[],_=>trivial
 |t::l,h=>⟨at9 t h.1,aji l h.2⟩
end
def aua(l)(w)(hw:w.length<=16000000)(hl:l.length<=10):JG [.lst (l.map AZ),.str (S w)]=aa (BV (bko l w)):=by
 let e:=f6;change AK _=_;delta ABY;rw[show AM [.str _]=aa (.int _)from by change(if(S w).length<=aw then aa (D.int _)else af)=_;rw[acy,aj yL],dm,la,cx,bb3 _ (by change(S w).length<=_;rw[acy];lia)];delta bko;by_cases h:12000<w.length;.rw[aj yL,aj (show bkp<w.length from h)];rfl
 .rw[ao yL,ao (show¬bkp<w.length from h),dm,d5];let ht:((tl (S w)).map λc=>D.int (c:ai))=(axo w).map D.int:=by change((w.map uz).map λc:ai=>D.int c)=((w.map λb=>Vadtta.nat b.toNat).map D.int);rw[el,el];rfl
  rw[ht];change(if(l.map AZ).length+((axo w).map D.int).length<=aw then aa (D.lst _)else af)=_;rw[aj (by grind[axo])];change _=aa (D.lst _);rw[fe];delta axl;rw[el];rfl
def aub(l)(k:ai)(j:0<k):DL.cutD l (aa (-k)) af=l.drop (l.length-k):=by
 delta DL.cutD;let h1:HT.BL l.length 0 (aa (-k))=l.length-k:=by delta HT.BL;lia
 rw[h1,show HT.BL l.length l.length af=l.length from rfl,U1 (JQ (MV ..))]
def bel(j:n<=1000)(h:t.day<=n/\t.claim<12):EK (J7 t)/\nd (J7 t)<=4/\BE (J7 t)<=1:=by
 show⟨⟨by change t.day<10^8;lia,by change t.claim<10^8;lia,?_,trivial⟩,?_,?_⟩;.change(if t.broken then Vadttd.wBroken else Vadttd.wHeld).length<=20;cases t.broken<;>decide
 .change 1+(1+(1+0))+1<=4;simp
 .change max 0 (max 0 (max 0 0))+1<=1;decide
section
variable{n:ai}{s:jq}
def bem(h:ik n s)(hn:n<=1000):O7 [DT s]=aa (BV (gf s.now .turns).2):=by
 change AK _=_;delta AB8;rw[bd9,cv,b5];let e1:BZ (aa (C7 s.now.turns)) (aa (K3 (aa (.int 100)))) af=aa (.lst (AV ((s.now.turns.take 100).reverse.map J7))):=by change aa _=_;rw[show(-(100:ak))=-((100:ai):ak)from rfl,aub _ 100 yD,bt,J9,<-aka,bkq,nv,el];congr 3;grind[bkr]
 let hm:∀t,t∈((s.now.turns.take 100).reverse.map J7)->EK t/\nd t<=4/\BE t<=1:=λt q=>by let⟨u,hu,rfl⟩:=gx.mp q;show bel hn (h.now.tc u (bks (bkt.mp hu)))
 let W:=acz λt q=>(hm t q).1;let hnd:=ac0 λt q=>(hm t q).2.1;let hlen:((s.now.turns.take 100).reverse.map J7).length<=100:=by grind
 let hwl:=ajh _ W;let j:(jn ((s.now.turns.take 100).reverse.map J7)).length<=16000000:=yL;rw[e1,cv,b5,atz 99 _ _ rfl (by let:=ac1 λt q=>(hm t q).2.2;lia) (aji _ W) j];change AK (((AF ((AF (AM [.lst (s.now.turns.reverse.map GF)]) (aa [])).map D.lst) _).bind JG).map Out.ret)=_;rwa[oa,bt,J9,cv,j4,cv,cv,b5,d5];show aua [s.now.turns.length] _ j yS
def ben(c):AE c.tree=BX c:=by cases c<;>rfl
def auc(r):AE (Q9 r)=AY r:=by change D.tup _=.tup _;simp[nv,ben]
def aud(T:gj):AE T.tree=.tup (.str (S m6)::.str (S T.name)::CZ T.cols::T.rows.map AY):=by change D.tup (.str _::.str _::.tup _::AV _)=_;rwa[nv,el];congr 4;simp[auc]
def beo(h:YX k):EK k.tree/\nd k.tree<=12/\BE k.tree<=1:=by
 cases k with
 |up n=>let:n<=1000000:=h;show⟨⟨by change(2)<=20;decide,by change n<10^8;lia,trivial⟩,by change 1+(1+0)+1<=12;decide,by change max 0 (max 0 0)+1<=1;decide⟩
 |of_ W=>
  let⟨h1,h2⟩:=h;let hm:∀t,t∈W.map er->EK t/\nd t<=1/\BE t<=0:=λt j=>by
   let⟨w,hw,rfl⟩:=gx.mp j;let:=h2 w hw;show⟨?_,b8 _,b8 _⟩;change w.length<=20;cases w with
   |nil=>simp
   |cons a r=>rwa[i4,cg]at this;show ff this.2.2
  let q:=ac0 λt j=>(hm t j).2.1;let hdp:=ac1 λt j=>(hm t j).2.2;rw[bt]at q;show⟨⟨by change(2)<=20;decide,acz λt j=>(hm t j).1⟩,?_,?_⟩;.change 1+GG _+1<=12;lia
  .change max 0 _+1<=1;lia
def afb(h:i4 w=ae):w.length<=20:=by
 cases w with
 |nil=>simp
 |cons a r=>rwa[i4,cg]at h;show ff h.2.2
def bep{c:mw}(j:i4 c.name=ae)(W:YX c.kind):EK c.tree/\nd c.tree<=15/\BE c.tree<=2:=by
 show d9 (beo W) λq k2 k3=>?_;delta bku;cases c.may with
 |true=>show⟨⟨afb j,q,(by change(5)<=20;simp),trivial⟩,by change 1+(nd c.kind.tree+(1+0))+1<=15;lia,by change max 0 (max _ (max 0 0))+1<=2;lia⟩
 |false=>show⟨⟨afb j,q,trivial⟩,by change 1+(nd c.kind.tree+0)+1<=15;lia,by change max 0 (max _ 0)+1<=2;lia⟩
def ber(h:ui T)(hr:lu T.cols r=ae):∀x,x∈r->EK x.tree/\nd x.tree<=1/\BE x.tree<=1:=by
 delta lu at hr;rwa[cg]at hr;intro x hx;let⟨j,hj,rfl⟩:=aj2.mp hx;let hz:(T.cols[j]'yL,r[j])∈T.cols.zip r:=by show aj2.mpr ⟨j,by rw[axh];lia,?_⟩;rw[bki]
 let hc:T.cols[j]'yL∈T.cols:=ZW _;let:=mr.mp hr.2 _ hz;let hk:=h.ck _ hc;delta bkj at this;rwa[jb]at this;cases hq:r[j]with
 |gone=>show⟨trivial,yD,yD⟩
 |num m=>
  rw[hq]at this;show⟨?_,b8 _,gv _⟩;change m<10^8;obtain q|q:=this;.cases W:(T.cols[j]'_).kind with
   |up n=>rw[W]at q hk;let h1:=ff q;let h2:n<=1000000:=hk;lia
   |of_ ws=>rw[W]at q;trivial
  .rw[cg]at q;cases q.2
 |word w=>
  rw[hq]at this;show⟨?_,b8 _,gv _⟩;obtain q|q:=this;.cases W:(T.cols[j]'_).kind with
   |up n=>rw[W]at q;trivial
   |of_ ws=>rw[W]at q hk;show afb (hk.2 w (aj7.mp q))
  grind
def bes(h:ui T)(hr:lu T.cols r=ae):EK (Q9 r)/\nd (Q9 r)<=7/\BE (Q9 r)<=2:=by
 let hl:r.length=T.cols.length:=by simp_all[lu]
 let hm:∀t,t∈r.map bn1->EK t/\nd t<=1/\BE t<=1:=λt j=>by grind[ber]
 let q:=ac0 λt j=>(hm t j).2.1;let W:=ac1 λt j=>(hm t j).2.2;rw[bt]at q;let:=h.c6;show⟨acz λt j=>(hm t j).1,?_,?_⟩;.change GG _+1<=7;lia
 .change CY _+1<=2;lia
def bet(h:ui T):EK T.tree/\nd T.tree<=400/\BE T.tree<=4:=by
 let hc:∀t,t∈T.cols.map bku->EK t/\nd t<=15/\BE t<=2:=λt j=>by let⟨c,hc,rfl⟩:=gx.mp j;show bep (h.cn c hc) (h.ck c hc)
 let hr:∀t,t∈T.rows.map Q9->EK t/\nd t<=7/\BE t<=2:=λt j=>by let⟨r,hr,rfl⟩:=gx.mp j;show bes h (h.ok.fit r hr)
 let q:=ac0 λt j=>(hc t j).2.1;let n2:=ac0 λt j=>(hr t j).2.1;let W:=ac1 λt j=>(hc t j).2.2;let d2:=ac1 λt j=>(hr t j).2.2;rw[bt]at q n2;let h1:=h.c6;let h2:T.rows.length<=40:=h.ok.cnt;show⟨⟨(by change(5)<=20;simp),afb h.nm,acz λt j=>(hc t j).1,acz λt j=>(hr t j).1⟩,?_,?_⟩;.change 1+(1+(GG _+1+GG _))+1<=400;lia
 .change max 0 (max 0 (max (CY _+1) _))+1<=4;lia
def beu(h:ui T):TN [BF T]=aa (AE T.tree):=by let e:=f6;change AK _=_;delta ABW;rw[aso,abi,show A8 FL "name" _=aa (.str _)from rfl,cv,cv,cv,j4,dm,d5,aud];change(if[D.str "table",.str _,CZ T.cols].length+(T.rows.map AY).length<=aw then _ else _)=_;let:T.rows.length<=40:=h.ok.cnt;rw[aj (by grind)];rfl
def bev(h:ik n s)(x):LW [DT s,.str (Tx x)]=aa (BV (gf s.now (.shown x)).2):=by
 change AK _=_;delta AB9;rwa[bd7,dm,ajd h.now,cx,ajc h.now];delta gf;dsimp;delta Vadttd.onTable;cases j:bw s.now.tables x with
 |none=>rfl
 |some T=>let hG:=h.now.tabs T (Q8 j);show d9 (bet hG) λb1 q W=>?_;let hl:=ajg _ b1;erw[ao yS,j4,cv,b5,beu hG,cv,b5,aty 99 T.tree yL (at9 _ b1) yL,cv,cv,b5,d5,aua [] T.tree.write yL yS]
end
end CK
namespace CK
open PySem PySem.Spec PyProof.Rows L2 DL TL
noncomputable def kA(s:jq):AD:=.m "Keeper" kn (EC s)
def bew{t c b h u d st x}(j:BZ (AG BI (aa st) (aa (.lst [.tup [t,c,b,h,u,d]]))) (aa (K3 (aa (.int 10)))) af=aa x):
 E7 [.m "Keeper" kn [t,c,b,h,u,d,st]]=aa ([(kn,[t,c,b,h,u,d,x])],.bj):=by change a7 AQ (a5 (BZ (AG BI (aa st) (aa _)) (aa (K3 (aa (.int 10)))) af) _)=_;rw[j];rfl
def E9(s:jq):jq:=⟨s.now,(s.now::s.earlier).take akb⟩
def bex(s:jq)(he:s.earlier.length<=10):AG BI (aa (.lst (s.earlier.reverse.map DE))) (aa (.lst [DE s.now]))=aa (.lst ((s.now::s.earlier).reverse.map DE)):=by let e:=f6;show(aj ?_).trans ?_;all_goals grind
def ac2(he:s.earlier.length<=10):E7 [kA s]=aa ([(kn,EC (E9 s))],.bj):=by show bew ?_;change BZ (AG BI _ (aa (.lst [DE s.now]))) _ af=_;rw[bex s he];change aa _=_;rw[show(-10)=-((10:ai):ak)from rfl,aub _ 10 yS,bt,J9,<-aka,bkq];change aa _=aa (D.lst (((s.now::s.earlier).take 10).reverse.map DE));rw[show(s.now::s.earlier).length-_=min 10 (s.now::s.earlier).length by omega,<-bkr]
def aue{c b h u d st j}(W:(A8 FL "name" (aa j)).bind keyOf=aa q)(hl:ks.length<aw):
 GS [.m "Keeper" kn [.d8 ks l,c,b,h,u,d,st],.d j]=aa ([(kn,[.d8 (D1 ks q) (E4 ks l q j),c,b,h,u,d,st])],.bj):=by change a7 AQ (a5 (CG (a5 ((A8 FL "name" (aa j)).bind keyOf) λq=>if ks.length<aw then _ else af)) _)=_;rw[W,b5,aj hl];rfl
def P0(s:jq)(ts:sy):jq:={s with now:={s.now with tables:=ts}}
def bey(h3:s.now.tables.length<=3)(hf:bw s.now.tables T.name=af):GS [kA s,.d (BF T)]=aa ([(kn,EC (P0 s (s.now.tables++[T])))],.bj):=by
 let e:=f6;let j:(s.now.tables.map λT=>.inr (S T.name)).any (λx=>decide (x=(.inr (S T.name):Key)))=false:=by rw[QH];intro x W q;let⟨U,hU,rfl⟩:=gx.mp W;let:=vq (axf (ff q));grind[bw]
 show(aue rfl (by rw[bt];lia)).trans ?_;unfold D1 E4;rw[j];change aa ([(kn,[D.d8 _ _,_,_,_,_,_,_])],D.bj)=aa ([(kn,[D.d8 ((s.now.tables++[T]).map λT=>_) ((s.now.tables++[T]).map BF),_,_,_,_,_,_])],D.bj);rw[fe,fe];rfl
def auf(T):∀ts,R7 (ts.map λT=>.inr (S T.name)) (ts.map BF) (.inr (S T.name)) (BF T)=(cw ts T).map BF
 |[]=>rfl
 |U::ts=>by
  let ih:=auf T ts;delta cw at ih⊢;rwa[R7,b9];congr 1;by_cases q:(U.name==T.name)=ae;.walk
  .rw[ao (λz=>q (by rw[vq (axf z)];simp)),ao q]
def bez(T)(ts):((cw ts T).map λT=>.inr (S T.name))=ts.map λT=>(.inr (S T.name):Key):=by delta cw;grind[jw]
def auh(q:s.now.tables.length<=3)(hf:bw s.now.tables T.name=aa T0):GS [kA s,.d (BF T)]=aa ([(kn,EC (P0 s (cw s.now.tables T)))],.bj):=by
 let e:=f6;let j:(s.now.tables.map λT=>.inr (S T.name)).any (λx=>decide (x=(.inr (S T.name):Key)))=true:=by erw[aju,⟨.inr _,gx.mpr ⟨T0,Q8 hf,rfl⟩,gm ?_⟩];rw[MM.find_name hf]
 show(aue rfl (by grind)).trans ?_;unfold D1 E4;rw[j,aj rfl,aj rfl,auf];change aa ([(kn,[D.d8 _ _,_,_,_,_,_,_])],D.bj)=aa ([(kn,[D.d8 ((cw s.now.tables T).map λT=>_) _,_,_,_,_,_,_])],D.bj);rw[bez];rfl
abbrev QA:=ab (ab (ab ai))
def FX(bf:QA)(i:ai):Bool:=match bf[i]? with
 |some x=>!x.isEmpty
 |none=>ag
def C8(day:ai)(bf:QA):ai->QA->ab NP
 |_,[]=>[]
 |i,b::r=>(if FX bf i==!b.isEmpty then[]else[⟨day,i,!b.isEmpty⟩])++C8 day bf (i+1) r
def aui(day)(bf):∀(bh)(i),(C8 day bf i bh).length<=bh.length
 |[],_=>b8 _
 |b::r,i=>by
  let j:=aui day bf r (i+1);delta C8;split;.show bjo j
  walk
def be0(bf)(i:ai):A0 (AG (AA .Lt) (aa (.int i)) (AM [.lst (bf.map AX)])) (AG (AA .Gt) ((AF (AB (.lst (bf.map AX)) (.int i)) (aa [])).bind AM) (aa (.int 0)))=aa (.bl (FX bf i)):=by
 simp[oa,dm,xg,md];delta FX;by_cases h:i<bf.length;.rw[aj yA,gz h,show AB _ _=aa (AX bf[i])from by change BQ _ i=_;rw[p8,i9,gz h];rfl,cv,b5,xm];change AA .Gt (.int _) _=_;rw[la,len_pos]
 grind
def be1(day)(bf)(bh):∀(r)(i)(acc)(X Y Z W),acc.length+r.length<100000->
 BO (AU UE (CM i (r.map AX)) [.val (AZ day),.val (.lst (bf.map AX)),.val bh,.own (acc.map GF),X,Y,Z,W]) PX=aa (.ret (.lst ((acc++C8 day bf i r).map GF))):=by
 intro r;induction r with
 |nil=>intro i acc X Y Z W _;change PX [.val _,.val _,.val bh,.own _,X,Y,Z,W]=_;rw[bd6,C8,ip]
 |cons b r I=>
  intro i acc X Y Z W h;rwa[d6]at h;let e:=f6;rwa[b9,CM,AU,bd5,be0,b5,xm,dm,show AA .Gt (AZ b.length) _=aa (.bl _)from by change AA .Gt (.int _) _=_;rw[la,len_pos]];rw[show AA .NotEq _ _=aa (.bl (!(FX bf i==!b.isEmpty)))from rfl,cx,C8];cases q:(FX bf i==!b.isEmpty)with
  |true=>show I (i+1) acc _ _ _ _ yL
  |false=>rw[aj yD,ao yD];let j:=I (i+1) (acc++[⟨day,i,!b.isEmpty⟩]) (.val (.int i)) (.val (AX b)) (.val (.bl (FX bf i))) (.val (.bl (!b.isEmpty))) (by grind);rw[jl]at j;rw[<-j,fe,show(AF _ _).map D.tup=aa (GF ⟨day,i,!b.isEmpty⟩)from by cases b.isEmpty<;>rfl,b5,bt,aj yL];rfl
def be2(day)(bf bh)(hl:bh.length<100000):OW [AZ day,.lst (bf.map AX),.lst (bh.map AX)]=aa (.lst ((C8 day bf 0 bh).map GF)):=by change AK _=_;rw[bd4];change AK (BO (AU UE _ [_,_,_,.own (([]).map GF),_,_,_,_]) PX)=_;rw[be1 day bf _ bh 0 [] .no .no .no .no yA];rfl
def be3{t c b h u u' d st nb}(h1:OW [d,b,nb]=aa (.lst ts))(h2:BI u (.lst ts)=aa u')(j:A6 (λx=>AI (AG (AA .Eq) (AB x (.int 2)) (aa (.str "broken"))) (aa (aa x)) (aa af)) ts=aa ms):
 HG [.m "Keeper" kn [t,c,b,h,u,d,st],.d nb]=aa ([(kn,[t,c,nb,h,u',d,st])],.lst [.int ms.length,.int (ts.length-ms.length)]):=by change a7 AQ (a5 (CG (a5 (OW [d,b,nb]) _)) _)=_;rw[h1];change a7 AQ (a5 (BI u (.lst ts)) _)=_;rw[h2];change a7 AQ (a5 (CG (a5 ((AF ((A6 (λx=>AI (AG (AA .Eq) (AB x (.int 2)) (aa (.str "broken"))) (aa (aa x)) (aa af)) ts).map D.lst) (aa [])).bind AM) _)) _)=_;rw[j];rfl
def be4(t):AG (AA .Eq) (AB (GF t) (.int 2)) (aa (.str "broken"))=aa (.bl t.broken):=by let⟨d,c,b⟩:=t;cases b<;>rfl
def be5(ts:ab NP):(ts.filter λt=>t.broken).length+(ts.filter λt=>!t.broken).length=ts.length:=by
 induction ts with
 |nil=>rfl
 |cons a r j=>
  rw[u7,u7,d6,<-j];cases a.broken;.rfl
  .show Nat.succ_add _ _
def ajj{t c h st}(h1:bh.length<1000)(h2:us.length<100000):
 HG [.m "Keeper" kn [t,c,.lst (bf.map AX),h,C7 us,AZ day,st],.d (.lst (bh.map AX))]=
  aa ([(kn,[t,c,.lst (bh.map AX),h,C7 ((C8 day bf 0 bh).reverse++us),AZ day,st])],BV (axp (C8 day bf 0 bh))):=by
 let e:=f6;let hl:=aui day bf bh 0;show(be3 (ms:=((C8 day bf 0 bh).filter λt=>t.broken).map GF) (be2 day bf bh yL) (u':=C7 ((C8 day bf 0 bh).reverse++us)) ?_ ?_).trans ?_;.change(if(us.reverse.map GF).length+((C8 day bf 0 bh).map GF).length<=aw then aa (D.lst _)else af)=_;rw[aj (by grind)];simp[C7]
 .grind[acg,be4,cx]
 .rw[bt,bt];let:=be5 (C8 day bf 0 bh);congr 6;change _=(((C8 day bf 0 bh).filter λt=>!t.broken).length:ak);lia
def be6(hr:rg bs=aa x)(ht:VU x=aa T)(h2:ou (T.cols.map λc=>c.name)=ag)(h4:T.rows.all (lu T.cols)=ae):ui T:=by
 let t:=atu ht;let hl:=(atv hr).1;rw[t.eq]at hl;let hc:∀c,c∈T.cols->PM c.tree:=λc hc=>ai7 hl.2.2.1 _ (qp hc);show⟨⟨h2,λr hr=>mr.mp h4 r hr,t.r40⟩,hl.2.1,t.c6,λc j=>?_,λc j=>?_⟩;.let:=hc c j;show this.1
 .let:=hc c j;let q:=this.2.1;let ks:=(ae6 (t.kinds c j)).2;cases W:c.kind with
  |up n=>rw[W]at q;show q.2.1
  |of_ ws=>rw[W]at q ks;show⟨ks.2,λw hw=>ai7 q.2 _ (qp hw)⟩
def be7(t:att x T):∀c,c∈T.cols->YQ c.kind:=λc hc=>by
 let ks:=(ae6 (t.kinds c hc)).2;cases j:c.kind with
 |up n=>trivial
 |of_ q=>rw[j]at ks;show ks.2
def auj:∀(cs:ab mw)(i)(ks)(l),∃p,GB i (cs.map EI) ks l=aa p
 |[],i,ks,l=>⟨_,rfl⟩
 |c::cs,i,ks,l=>by let⟨p,hp⟩:=auj cs _ _ _;show⟨p,hp⟩
def be8(T:gj)(hl:T.cols.length<4000):∃p,EY [.str (S T.name),CZ T.cols,B6 T.rows]=aa (.obj "Table" ["name","columns","rows","places"] [.str (S T.name),CZ T.cols,B6 T.rows,p]):=by let⟨p,hp⟩:=auj T.cols 0 [] [];show⟨p,?_⟩;change(if(T.cols.map EI).length<4000 then(GB 0 _ [] []).map (λp=>D.obj "Table" ["name","columns","rows","places"] [.str _,.tup _,B6 T.rows,p])else af)=_;rw[bt,aj hl,hp];rfl
def be9(h:mh n b)(hG:ui T)(hf:bw b.tables T.name=af)(h3:b.tables.length<3):mh (n+1) {b with tables:=b.tables++[T]}:=by
 let hne:∀y,(∃U,bw b.tables y=aa U)->bw (b.tables++[T]) y=bw b.tables y:=λy zq5_1=>xE zq5_1 λU W=>by delta bw at W⊢;rw[awt,W];rfl
 let hgood:∀k,k∈b.kept->at1 _ k:=λk hk=>by
  let ok:=h.kept k hk;let g:=ok.cl.good;let j:∀y,y∈k.claim.tables->bw _ y=bw b.tables y:=λy hy=>by
   show hne y ?_;delta qx at g;cases q:bw b.tables k.claim.table with
   |none=>rw[q]at g;cases g
   |some U=>
    rw[q]at g;cases hc:k.claim with
    |refers t cs u ds=>
     rw[hc]at g hy q;simp[my,df,qo,VC]at hy;obtain rfl|rfl:=hy;.show⟨U,q⟩
     .cases q2:bw b.tables y<;>grind
    |_=>rw[hc]at hy q;rwa[my,fq]at hy;clear hc;subst hy;show⟨U,q⟩
  show⟨⟨ok.cl.tr,ok.cl.dp,?_⟩,ok.br.trans (MM.aen j).symm,ok.ow,ok.lv⟩;delta qx at g⊢;rw[j _ (by cases k.claim<;>simp[my,i3])];cases q:bw b.tables k.claim.table with
  |none=>rw[q]at g;cases g
  |some U=>
   rw[q]at g;cases hc:k.claim with
   |refers t cs u ds=>rw[hc]at g j;dsimp only at g⊢;erw[j u (by simp[my]),g]
   |_=>rw[hc]at g;show g
 show⟨λU W=>?_,?_,by rw[e9,qr];lia,h.uj,hgood,by let:=h.day;lia,by let:=h.turns;lia,by let:=h.days;lia,λt ht=>⟨by let:=(h.tc t ht).1;lia,(h.tc t ht).2⟩,h.dl⟩
 .obtain W|W:=sh.mp W;.show h.tabs U W
  .erw[fq.mp W,hG]
 .erw[fe,J0.mpr ⟨h.names,yS,λx hx y hy=>?_⟩];let⟨U,W,rfl⟩:=gx.mp hx;rw[b9,VA,fq]at hy;subst hy;intro q;delta bw at hf;rw[ajp]at hf;show hf U W (by erw[q,gp _])
def ac3(h:ik n s):ik (n+1) (E9 s):=by
 show⟨h.now.mono yL,λb j=>?_,by change((s.now::s.earlier).take 10).length<=10;grind⟩;let:=bks j;obtain rfl|j:=df.mp this;.show h.now.mono yL
 .show(h.old b j).mono yL
def FY(e:eu)(n:ai)(s:jq)(as:ab AD)(r:jq×ab ak):Prop:=e (kA s::as)=aa ([(kn,EC r.1)],BV r.2)/\ik (n+1) r.1
def ik.up(h:ik n s):ik (n+1) s:=⟨h.now.mono yL,λb j=>(h.old b j).mono yL,h.qe⟩
def HN(s:jq)(x:NO×ab ak):jq×ab Int:=if akc x.2 then(s,x.2)else(⟨x.1,(s.now::s.earlier).take akb⟩,x.2)
def bfa(h:e<0):HN s (b,[e])=(s,[e]):=by unfold HN akc;grind
def afc(h:akc a=ag):HN s (b,a)=(⟨b,(s.now::s.earlier).take akb⟩,a):=by grind[HN]
def leaf(h:ik n s)(e)(he:e<0)(hr:HN s x=r)(j:x=(s.now,[e]))(hp:o=aa ([(kn,EC s)],BV [e])):o=aa ([(kn,EC r.1)],BV r.2)/\ik (n+1) r.1:=by subst j;rw[bfa he]at hr;subst hr;show⟨hp,h.up⟩
def bfb(h:ik n s)(bs)(hb:bs.length<=6000):FY LX n s [.d (.str (Tx bs))] (o6 s (.table bs)):=by
 let e:=f6;let hrd:=aiv bs yL;let start:LX [kA s,.d (.str (Tx bs))]=a7 AQ (a5 (CG (a5 (HF [.str (Tx bs)]) _)) _):=rfl;delta FY;generalize hg:o6 s (.table bs)=r;let hg:HN s (gf s.now (.table bs))=r:=hg;let hd:gf s.now (.table bs)=(match bkv bs with
  |.error e=>(s.now,[e])
  |.ok T=>if(s.now.tables.find T.name).isSome then(s.now,[-5])else if bkw<=s.now.tables.length then(s.now,[-6])else({s.now with tables:=s.now.tables++[T]},J8 [T.cols.length,T.rows.length])):=rfl;delta bkv at hd;rw[start,hrd];cases hr:rg bs with
 |none=>rw[hr]at hd;show leaf h (-1) yD hg hd rfl
 |some x=>
  rw[hr]at hd;dsimp only at hd;change a7 AQ (AI (AA .Is (AE x) .bj) _ _)=_/\_;rw[show AA .Is (AE x) .bj=aa (.bl ag)from by cases x<;>rfl];change a7 AQ (AI (BA (TC [AE x])) _ _)=_/\_;rw[bal];cases ht:VU x with
  |none=>rw[ht]at hd;show leaf h (-2) yD hg hd rfl
  |some T=>
   rw[ht]at hd;dsimp only at hd;let tt:=atu ht;let hx:AE x=.tup (.str (S m6)::.str (S T.name)::CZ T.cols::T.rows.map AY):=by rw[tt.eq,aud]
   let hc6:=tt.c6;let⟨p,hp⟩:=be8 T yL;change a7 AQ (a5 (CG (a5 ((AF (AB (AE x) (.int 1)) (AF (AB (AE x) (.int 2)) (AF (BZ (aa (AE x)) (aa (aa (.int 3))) af) (aa [])))).bind EY) _)) _)=_/\_;rw[hx,show AB (.tup (.str (S m6)::.str (S T.name)::CZ T.cols::T.rows.map AY)) (.int 1)=aa (.str (S T.name))from by change BQ _ ((1:ai):ak)=_;rw[p8];rfl,show AB (.tup (.str (S m6)::.str (S T.name)::CZ T.cols::T.rows.map AY)) (.int 2)=aa (CZ T.cols)from by change BQ _ ((2:ai):ak)=_;rw[p8];rfl,show BZ (aa (.tup (.str (S m6)::.str (S T.name)::CZ T.cols::T.rows.map AY))) (aa (aa (.int 3))) af=aa (B6 T.rows)from asm _ _ _ _,cv,cv,cv,b5,hp];change a7 AQ (AI (TR [CZ T.cols]) _ _)=_/\_;rw[bb8 yL (be7 tt),cx];by_cases q3:(ou (T.cols.map λc=>c.name)||T.cols.any λc=>c.kind.twice)=ae;.rw[aj q3]at hd⊢;show leaf h (-3) yD hg hd rfl
   .rw[ao q3]at hd⊢;let hdis:ou (T.cols.map λc=>c.name)=false:=by
     cases z:ou (T.cols.map λc=>c.name)with
     |false=>rfl
     |true=>rw[z]at q3;show cj rfl q3
    let hp2:=aiw (T:=T) hdis yL;rw[hp]at hp2;rw[fo hp2];change a7 AQ (AI (BA (TF [B6 T.rows,CZ T.cols])) _ _)=_/\_;rw[bao,lm,cx];by_cases q4:(!(T.rows.all (lu T.cols)))=ae;.rw[aj q4]at hd⊢;show leaf h (-4) yD hg hd rfl
    .rw[ao q4]at hd⊢;dsimp only at hd;let hG:=be6 hr ht hdis (by simpa using q4);change a7 AQ (AI (AA .In (.str (S T.name)) (BN s.now.tables)) _ _)=_/\_;rw[baq,cx];cases q5:bw s.now.tables T.name with
     |some U=>rw[q5]at hd;show leaf h (-5) yD hg hd rfl
     |none=>
      rw[q5,ao yS]at hd;rw[ao yS];change a7 AQ (AI (AA .Eq (.int (((s.now.tables.map BF).length:ai):ak)) (.int 3)) _ _)=_/\_;rw[bt,vt,cx];let h3:=h.now.t3;by_cases q6:bkw<=s.now.tables.length;.let q6':3<=s.now.tables.length:=q6;rw[aj q6]at hd;erw[aj (by simp;lia),leaf h (-6) yD hg hd rfl]
      .let q6':¬3<=s.now.tables.length:=q6;rw[ao q6]at hd;rw[ao (by simp;lia)];change a7 AQ (a5 (a5 (E7 [kA s]) _) _)=_/\_;rw[ac2 h.qe];change a7 AQ (a5 (a5 (GS [kA (E9 s),.d (BF T)]) _) _)=_/\_;rw[bey (s:=E9 s) (by change s.now.tables.length<=3;lia) q5];rw[hd,afc rfl]at hg;subst hg;show⟨?_,?_⟩;.change aa ([(kn,EC (P0 (E9 s) (s.now.tables++[T])))],D.lst [.int (((T.cols.map EI).length:ai):ak),.int (((T.rows.map AY).length:ai):ak)])=_;rw[bt,bt];rfl
       .let r:=ac3 h;show⟨be9 h.now hG q5 yL,r.old,r.qe⟩
def bfc(l):DL.cutD l af (aa (-1))=l.take (l.length-1):=by
 delta DL.cutD;let h2:HT.BL l.length l.length (aa (-1))=l.length-1:=by grind[HT.BL]
 rw[h2];rfl
def afx(l:ab j):BQ l (-1)=l.getLast?:=by
 unfold BQ DU;rw[ao yL];cases l with
 |nil=>rfl
 |cons a r=>rw[bkn,d6,aj yL,b5];congr 1;lia
def bfd(x)(r):AB (.lst ((x::r).reverse.map DE)) (.int (-1))=aa (DE x):=by change BQ _ _=_;rw[afx,List.reverse_cons,fe,b9,VA,axe]
def bfe(x)(r):DL.cutD ((x::r).reverse.map DE) af (aa (-1))=r.reverse.map DE:=by simp[bfc]
def bff(h:ik n s):FY L5 n s [] (o6 s .undo):=by
 let start:L5 [kA s]=a7 AQ (AI (AA .Eq (.int _) (.int 0)) _ _):=rfl;delta FY;rw[start,bt,J9,vt,cx];let⟨b,es⟩:=s;clear start;cases es with
 |nil=>show⟨rfl,h.up⟩
 |cons x r=>change a7 AQ (a5 (CG (a5 (AB (.lst _) (.int (-1))) _)) _)=_/\_;erw[bfd,⟨?_,(h.old x yS).mono yL,λc hc=>(h.old c (dj _ hc)).mono yL,by let:=h.qe;rw[d6]at this;change r.length<=10;lia⟩];change aa ([(kn,[BN x.tables,DO x.kept,C0 x.kept,DP x,C7 x.turns,AZ x.day,.lst _])],D.lst [.int _])=_;rw[bfe,bt,J9];rfl
def bfg(b)(d)(i)(hi:i<d.length):kz {b with day:=b.day+1,days:=d::b.days} i=kz b i++[d.getD i 0]:=by simp_all[kz]
def bfh(f)(g)(F G):∀(m i),(∀j,i<=j->j<i+m->f (.tup [F j,G j])=aa (aa (g j)))->A6 f (CU ((u9 i m).map F) ((u9 i m).map G))=aa ((u9 i m).map g):=by
 intro m;induction m with
 |zero=>show λi _=>rfl
 |succ m I=>grind[aj8,CU,A6]
def HP(s:jq)(j:ai):Nat:=(s.now.kept.map λk=>k.breakers.length).getD j 0
def auk(s):(s.now.kept.map λk=>AZ k.breakers.length)=(u9 0 s.now.kept.length).map λj=>AZ (HP s j):=by show List.ext_getElem yS λi h1 h2=>?_;delta HP;grind
def bfi(ks:ab jo):(ks.filter V4).length=((ks.map λk=>k.breakers.length).filter λm=>decide (0<m)).length:=by rw[bju,bt];congr 2;funext k;change V4 k=decide (0<k.breakers.length);delta V4;cases k.breakers<;>rfl
def bfj(h:ik n s)(hn:n<=1000):FY L4 n s [] (o6 s .day):=by
 let start:L4 [kA s]=a7 AQ (a5 (a5 (E7 [kA s]) _) _):=rfl;let e:=f6;delta FY;rw[start,ac2 h.qe];let W:(A6 (λd=>((AM [d]).map aa)) (s.now.kept.map λk=>AX k.breakers))=aa (s.now.kept.map λk=>AZ k.breakers.length):=comp_map λk ζ=>by rw[xm];rfl
 change a7 AQ (a5 (CG (a5 (F4 ((A6 (λd=>((AM [d]).map aa)) (s.now.kept.map λk=>AX k.breakers)).map D.lst)) _)) _)=_/\_;rw[W];change a7 AQ (a5 ((A6 _ (CU ((e6 s.now.kept.length).map (GD s.now)) (s.now.kept.map λk=>AZ k.breakers.length))).map D.lst) _)=_/\_;rw[auk,V1,bfh (g:=λj=>.lst ((kz s.now j).map AZ++[AZ (HP s j)])) (F:=GD s.now) (G:=λj=>AZ (HP s j))]
 .let hc3:A6 (λc=>AI (AA .Gt c (.int 0)) (aa (aa c)) (aa af)) ((u9 0 s.now.kept.length).map λj=>AZ (HP s j))=aa (((s.now.kept.map λk=>k.breakers.length).filter λm=>decide (0<m)).map AZ):=by erw[<-auk,show(s.now.kept.map λk=>AZ k.breakers.length)=(s.now.kept.map λk=>k.breakers.length).map AZ by rw[el];rfl,acg λm ζ=>by change AI (AA .Gt (.int ((m:ai):ak)) (.int 0)) _ _=_;rw[la,cx,show decide ((0:ak)<((m:ai):ak))=decide (0<m)from yx.mpr yL];cases decide (0<m)<;>rfl]
  change a7 AQ (a7 _ ((AF (aa (.int (((s.now.day:ai):ak)+1-1))) (AF ((AF ((A6 (λc=>AI (AA .Gt c (.int 0)) (aa (aa c)) (aa af)) ((u9 0 s.now.kept.length).map λj=>AZ (HP s j))).map D.lst) (aa [])).bind AM) (aa []))).map D.lst))=_/\_;rw[hc3];let hst:o6 s .day=(⟨{s.now with day:=s.now.day+1,days:=(s.now.kept.map λk=>k.breakers.length)::s.now.days},(s.now::s.earlier).take akb⟩,J8 [s.now.day,(s.now.kept.filter V4).length]):=rfl;rw[hst];let hh:(u9 0 s.now.kept.length).map (λj=>D.lst ((kz s.now j).map AZ++[AZ (HP s j)]))=(e6 s.now.kept.length).map (GD {s.now with day:=s.now.day+1,days:=(s.now.kept.map λk=>k.breakers.length)::s.now.days}):=by erw[<-V1,jw λj hj=>?_];delta GD;rw[bfg _ _ _ (by erw[bt,ka.mp hj]),fe];rfl
  show⟨?_,?_⟩;.change aa ([(kn,[BN s.now.tables,DO s.now.kept,C0 s.now.kept,.lst ((u9 0 s.now.kept.length).map λj=>D.lst ((kz s.now j).map AZ++[AZ (HP s j)])),C7 s.now.turns,.int (((s.now.day:ai):ak)+1),.lst (((s.now::s.earlier).take 10).reverse.map DE)])],D.lst [.int (((s.now.day:ai):ak)+1-1),.int ((((((s.now.kept.map λk=>k.breakers.length).filter λm=>decide (0<m)).map AZ).length:ai)):ak)])=_;rw[hh,bt,<-bfi,Int.add_sub_cancel];rfl
  .let r:=ac3 h;let q:=h.now;show⟨⟨q.tabs,q.names,q.t3,q.uj,q.kept,(by let:=q.day;change s.now.day+1<=_;lia),(by let:=q.turns;change s.now.turns.length<=_;lia),(by let:=q.days;change s.now.days.length+1<=_;lia),λt ht=>⟨by let:=(q.tc t ht).1;lia,(q.tc t ht).2⟩,λd hd=>(by
    obtain rfl|hd:=df.mp hd;.erw[bt,b8 _]
    .show q.dl d hd)⟩,r.old,r.qe⟩
 .intro j _ _;change a7 aa (AG BI (aa (GD s.now j)) (aa (.lst [AZ (HP s j)])))=_;let hl:(kz s.now j).length<=n:=by delta kz;erw[J9,jh (axn _ _) h.now.days]
  change a7 aa (if((kz s.now j).map AZ).length+1<=aw then _ else _)=_;rw[aj (by rw[bt];lia)];rfl
def bfk(day)(bf)(c):∀(r)(i),(∀j b,r[j]?=aa b->bf[i+j]?=aa b)->bf.length=i+r.length->C8 day bf i (r++[c])=if c.isEmpty then[]else[⟨day,bf.length,ae⟩]:=by
 intro r;induction r with
 |nil=>
  intro i _ hl;rw[avv,axq]at hl;rw[qk,C8,C8,ip];let:FX bf i=false:=by delta FX;rw[awz yL]
  rw[this,hl];cases c.isEmpty<;>rfl
 |cons b r I=>
  intro i h hl;let q:=h 0 b rfl;rw[axq]at q;let W:=I (i+1) (λj x hx=>by let:=h (j+1) x hx;grind) (by rw[d6]at hl;lia);rw[awr,C8,W];let:FX bf i=!b.isEmpty:=by delta FX;rw[q]
  grind
def aul(hs:GZ s):(a8 s k).length<=1000000:=by
 cases hf:bw s k.table with
 |none=>erw[MM.aco hf,gv _]
 |some T=>
  let hc:=(hs.of hf).cnt;let q:∀p,(MM.ones T.count p).length<=1000000:=λp=>by delta MM.ones;grind
  let t1:∀p,(MM.tw T.count p).length<=1000000:=λp=>by
   delta MM.tw;erw[bt,jh (V2 _ _) ?_];delta QX;rw[List.length_flatMap];let:∀l:ab ai,(l.map λi=>(((e6 T.count).filter λj=>decide (i<j)).map λj=>(i,j)).length).sum<=40*l.length:=by intro l;induction l<;>grind
   grind
  cases k with
  |each t c=>erw[MM.aah (t:=t) hf,q _]
  |any t c=>rw[MM.abd (t:=t) hf];split<;>simp
  |pairs t c|key t c|fixes t c d=>rwa[MM.aai (t:=t) hf,MM.aak (t:=t) hf,MM.aal (t:=t) hf];show t1 _
  |next t c=>rw[MM.aaj (t:=t) hf];delta MM.EZ;grind
  |refers t c u d=>
   cases W:bw s u with
   |none=>erw[MM.acn (t:=t) hf W,gv _]
   |some V=>erw[MM.me (t:=t) hf W,q _]
  |groups t c a lo hi=>rw[MM.abe (t:=t) hf];unfold MM.B0 MM.D8;grind
def bfl(h:mh n b)(k)(ts):DP {b with kept:=b.kept++[k],turns:=ts}=.lst ((e6 b.kept.length).map (GD b)++[.lst []]):=by
 delta DP;rw[e9,qr,VF,fe];congr 2;change[D.lst _]=_;let:kz {b with kept:=b.kept++[k],turns:=ts} b.kept.length=[]:=by delta kz;rw[List.filterMap_eq_nil_iff.mpr λd hd=>awz (h.dl d hd)];rfl
 rw[this];rfl
def bfm(h:ik n s)(hn:n<=1000)(v)(o bs)(ho:o.length<=6000)(hb:bs.length<=6000):FY LY n s [.d (.int v),.d (.str (Tx o)),.d (.str (Tx bs))] (o6 s (.claim v o bs)):=by
 let e:=f6;let hrd:=aiv bs yL;let start:LY [kA s,.d (.int v),.d (.str (Tx o)),.d (.str (Tx bs))]=a7 AQ (AI (AA .NotIn (.int v) (.tup [.int 0,.int 1,.int 2])) _ _):=rfl;delta FY;generalize hg:o6 s (.claim v o bs)=r;let hg:HN s (gf s.now (.claim v o bs))=r:=hg;let hd:gf s.now (.claim v o bs)=if v<0\/RA<=v then(s.now,[-7])else if !i4 o then(s.now,[-10])else(match bkx s.now.tables bs with
  |.error e=>(s.now,[e])
  |.ok k=>if bky<=s.now.kept.length then(s.now,[-6])else
   ({s.now with kept:=s.now.kept++[⟨k,o,v.toNat,a8 s.now.tables k⟩],turns:=(if(a8 s.now.tables k).isEmpty then[]else[⟨s.now.day,s.now.kept.length,ae⟩])++s.now.turns},J8 [s.now.kept.length,(a8 s.now.tables k).length])):=rfl;rw[start,at6,cx];by_cases q7:v<0\/RA<=v;.rw[aj q7]at hd;erw[gm q7,aj rfl,leaf h (-7) yD hg hd rfl]
 .rw[ao q7]at hd;rw[gi q7,ao yD];change a7 AQ (AI (BA (LN [.str (Tx o)])) _ _)=_/\_;rw[asv yL,lm,cx];by_cases q10:(!i4 o)=ae;.rw[aj q10]at hd⊢;show leaf h (-10) yD hg hd rfl
  .rw[ao q10]at hd⊢;let how:i4 o=true:=by simpa using q10
   delta bkx at hd;change a7 AQ (a5 (CG (a5 (HF [.str (Tx bs)]) _)) _)=_/\_;rw[hrd];change a7 AQ (AI (A7 (AA .Is (PK (rg bs)) .bj) (AG (AA .Gt) (AM [.str (Tx bs)]) (aa (.int 700)))) _ _)=_/\_;rw[aik yL,dm,la];by_cases q1:Vadtta.CLAIM<bs.length
   .let q1':700<bs.length:=q1;rw[aj q1]at hd;let:A7 (AA .Is (PK (rg bs)) .bj) (aa (.bl (decide ((700:ak)<((bs.length:ai):ak)))))=aa (.bl ae):=by
     rw[gm yL];cases rg bs with
     |none=>rfl
     |some x=>cases x<;>rfl
    erw[this,leaf h (-1) yD hg hd rfl]
   .let q1':¬700<bs.length:=q1;rw[ao q1]at hd;rw[gi yL];cases hr:rg bs with
    |none=>rw[hr]at hd;show leaf h (-1) yD hg hd rfl
    |some x=>
     rw[hr]at hd;dsimp only at hd;rw[show A7 (AA .Is (PK (aa x)) .bj) (aa (.bl ag))=aa (.bl ag)from by cases x<;>rfl];let hdx:=ba2 hr;change a7 AQ (AI (BA (ON [AE x])) _ _)=_/\_;rw[a_8 x yL];cases ht:ku x with
     |none=>rw[ht]at hd;show leaf h (-2) yD hg hd rfl
     |some k=>
      rw[ht]at hd;dsimp only at hd;let hlv:=(atv hr).2;let hown:=bdr ht;change a7 AQ (AI (BA (S8 [AE x,BN s.now.tables])) _ _)=_/\_;rw[bav yL ht yL (λy T hT=>(h.now.st.of hT).MF),lm,cx];by_cases q3:k.good s.now.tables=ae
      .rw[aj q3]at hd;dsimp only at hd;rw[q3,ao yD];let hxk:=bdk ht;let cl:uh s.now.tables k.tree k:=⟨by erw[<-hxk,ht],by rw[<-hxk];lia,q3⟩;let h12:=h.now.uj;change a7 AQ (AI (AA .Eq (.int (((s.now.kept.map B2).length:ai):ak)) (.int 12)) _ _)=_/\_;rw[bt,vt,cx];by_cases q6:bky<=s.now.kept.length;.let q6':12<=s.now.kept.length:=q6;rw[aj q6]at hd;erw[aj (by simp;lia),leaf h (-6) yD hg hd rfl]
       .let q6':¬12<=s.now.kept.length:=q6;rw[ao q6]at hd;rw[ao (by simp;lia)];change a7 AQ (a5 (a5 (E7 [kA s]) _) _)=_/\_;rw[ac2 h.qe];change a7 AQ (a5 (CG (a5 (OV [AE x,BN s.now.tables]) _)) _)=_/\_;rw[bde h.now.st ⟨ht,yL,q3⟩];let hv0:0<=v:=yL;let a1:AG BI (aa (DO s.now.kept)) ((AF (TQ [.int v,.str (Tx o),AE x]) (aa [])).map D.lst)=aa (DO (s.now.kept++[⟨k,o,v.toNat,a8 s.now.tables k⟩])):=by change(if(s.now.kept.map B2).length+1<=aw then aa (D.lst (s.now.kept.map B2++[.obj "Claim" ["level","owner","tree"] [.int v,.str (Tx o),AE x]]))else af)=_;rw[aj (by rw[bt];lia),aan how,hxk];delta DO;rw[fe];change aa (D.lst (_++[_]))=aa (D.lst (_++[D.obj "Claim" ["level","owner","tree"] [AZ v.toNat,.str (S o),AE k.tree]]));rw[show AZ v.toNat=.int v from by delta AZ;rw[bkh hv0]]
        let a2:AG BI (aa (DP s.now)) (aa (.lst [.lst []]))=aa (.lst ((e6 s.now.kept.length).map (GD s.now)++[.lst []])):=by change(if((e6 s.now.kept.length).map (GD s.now)).length+1<=aw then _ else _)=_;rw[aj (by rw[bt,List.length_range];lia)]
        let a3:AG BI (aa (C0 s.now.kept)) (aa (.lst [AX (a8 s.now.tables k)]))=aa (.lst (((s.now.kept.map λk=>k.breakers)++[a8 s.now.tables k]).map AX)):=by change(if(s.now.kept.map λk=>AX k.breakers).length+1<=aw then aa (D.lst ((s.now.kept.map λk=>AX k.breakers)++[AX (a8 s.now.tables k)]))else af)=_;rw[aj (by rw[bt];lia),fe,el];rfl
        generalize hCC:DO (s.now.kept++[⟨k,o,v.toNat,a8 s.now.tables k⟩])=CC at a1;generalize hHH:(.lst ((e6 s.now.kept.length).map (GD s.now)++[.lst []]):D)=HH at a2;generalize hNB:(.lst (((s.now.kept.map λk=>k.breakers)++[a8 s.now.tables k]).map AX):D)=NB at a3;change a7 AQ (a5 (AG BI (aa (DO s.now.kept)) ((AF (TQ [.int v,.str (Tx o),AE x]) (aa [])).map D.lst)) _)=_/\_;rw[a1];change a7 AQ (a5 (AG BI (aa (DP s.now)) (aa (.lst [.lst []]))) _)=_/\_;rw[a2];change a7 AQ (a5 (a5 (a7 _ (a5 (AG BI (aa (C0 s.now.kept)) (aa (.lst [AX (a8 s.now.tables k)]))) _)) _) _)=_/\_;rw[a3];let hb0:C0 s.now.kept=.lst ((s.now.kept.map λk=>k.breakers).map AX):=by delta C0;rw[el];rfl
        let htl:=h.now.turns;change a7 AQ (a5 (a5 (HG [.m "Keeper" kn [BN s.now.tables,CC,C0 s.now.kept,HH,C7 s.now.turns,AZ s.now.day,.lst (((s.now::s.earlier).take 10).reverse.map DE)],.d NB]) _) _)=_/\_;rw[hb0,<-hNB,ajj (by rw[e9,bt,qr];lia) yL];let htb:=bfk s.now.day (s.now.kept.map λk=>k.breakers) (a8 s.now.tables k) (s.now.kept.map λk=>k.breakers) 0 (λj b hj=>by erw[ND,hj]) yL;rw[htb];rw[hd,afc rfl]at hg;subst hg;rw[bt];let hrev:(if(a8 s.now.tables k).isEmpty=ae then([]:ab NP)else[⟨s.now.day,s.now.kept.length,ae⟩]).reverse=if(a8 s.now.tables k).isEmpty=ae then[]else[⟨s.now.day,s.now.kept.length,ae⟩]:=by split<;>rfl
        erw[hrev,⟨?_,?_⟩]
        .rw[hNB];let hlc:AM [CC]=aa (.int (((s.now.kept.length+1:ai)):ak)):=by rw[<-hCC];change AM [.lst _]=_;rw[oa,bt,e9,qr]
         change a7 AQ (a7 _ ((AF (AG E1 (AM [CC]) (aa (.int 1))) (AF (AM [AX (a8 s.now.tables k)]) (aa []))).map D.lst))=_;rw[hlc,xm,<-hNB];change aa ([(kn,[BN s.now.tables,CC,.lst (((s.now.kept.map λk=>k.breakers)++[a8 s.now.tables k]).map AX),HH,C7 ((if(a8 s.now.tables k).isEmpty=ae then[]else[⟨s.now.day,s.now.kept.length,ae⟩])++s.now.turns),AZ s.now.day,.lst (((s.now::s.earlier).take 10).reverse.map DE)])],D.lst [.int ((((s.now.kept.length+1:ai)):ak)-1),AZ (a8 s.now.tables k).length])=_;rw[<-hHH,<-hCC,<-bfl h.now ⟨k,o,v.toNat,a8 s.now.tables k⟩ ((if(a8 s.now.tables k).isEmpty=ae then[]else[⟨s.now.day,s.now.kept.length,ae⟩])++s.now.turns)];let hbk:(.lst (((s.now.kept.map λk=>k.breakers)++[a8 s.now.tables k]).map AX):D)=C0 (s.now.kept++[⟨k,o,v.toNat,a8 s.now.tables k⟩]):=by delta C0;rw[fe,fe,el];rfl
         rw[hbk,show((((s.now.kept.length+1:ai)):ak)-1)=((s.now.kept.length:ai):ak)by lia];rfl
        .let r:=ac3 h;let hB:=h.now;let ht1:(if(a8 s.now.tables k).isEmpty=ae then([]:ab NP)else[⟨s.now.day,s.now.kept.length,ae⟩]).length<=1:=by split<;>simp
         show⟨⟨hB.tabs,hB.names,hB.t3,by change(s.now.kept++[_]).length<=12;rw[e9,qr];lia,λk2 hk2=>?_,(by let:=hB.day;change s.now.day<=_;lia),(by change(_++s.now.turns).length<=_;rw[e9];lia),(by let:=hB.days;change s.now.days.length<=_;lia),λt ht=>?_,λd hd=>?_⟩,r.old,r.qe⟩
         .obtain hk2|hk2:=sh.mp hk2;.show hB.kept k2 hk2
          .rw[fq]at hk2;subst hk2;let h3:RA=3:=rfl;show⟨cl,rfl,how,(by change v.toNat<=2;lia)⟩
         .obtain ht|ht:=sh.mp ht
          .k_lt ht;.cases ht
           .rw[fq]at ht;subst ht;show⟨(by let:=hB.day;change s.now.day<=_;lia),(by change s.now.kept.length<12;lia)⟩
          .show⟨by let:=(hB.tc t ht).1;lia,(hB.tc t ht).2⟩
         .let:=hB.dl d hd;change d.length<=(s.now.kept++[_]).length;rw[e9];lia
      .rw[ao q3]at hd;erw[show k.good s.now.tables=ag by simpa using q3,leaf h (-3) yD hg hd rfl]
def aum(day)(bf):∀(a b:ab jo)(i),a.length=b.length->(∀j x,a[j]?=aa x->bf[i+j]?=aa x.breakers)->
 C8 day bf i (b.map λk=>k.breakers)=((a.zip b).zipIdx i).filterMap λx=>if x.1.1.broken==x.1.2.broken then af else aa ⟨day,x.2,x.1.2.broken⟩
 |[],[],i,_,_=>rfl
 |x::a,y::b,i,hl,h=>by
  let q:=h 0 x rfl;rw[axq]at q;let W:=aum day bf a b (i+1) (by grind) (λj z hz=>by let:=h (j+1) z hz;grind);let hw:FX bf i=x.broken:=by delta FX;rw[q];rfl
  rw[b9,C8,W,List.zip_cons_cons,axm,bgb,hw];change(if(x.broken==y.broken)=ae then[]else([⟨day,i,y.broken⟩]:ab NP))++_=_;grind
 |[],_::_,_,hl,_=>yT
 |_::_,[],_,hl,_=>rfl
def aun(day)(a b)(hl:a.length=b.length):C8 day (a.map λk=>k.breakers) 0 (b.map λk=>k.breakers)=KA day a b:=
 aum day _ a b 0 hl λj x q=>by grind
def abk{T T2:gj}(h:T2.cols=T.cols)(l):T2.hasCols l=T.hasCols l:=by unfold bj8 bn2;rw[h]
def ajk(hx:bw s x=aa T)(hn:T2.name=T.name)(hc:T2.cols=T.cols)(k:y8):k.good (cw s T2)=k.good s:=by
 let fu:∀y,(bw _ y=bw s y)\/(bw s y=aa T/\bw _ y=aa T2):=λy=>by rw[ae5 hx hn];grind
 let hu:qz T2=qz T:=funext (λc=>by delta qz;rw[hc]);let fa:∀u ds,((bw _ u).any λx=>x.hasCols ds)=(bw s u).any λx=>x.hasCols ds:=λu ds=>by
  obtain q|⟨j,W⟩:=fu u;.rw[q]
  .erw[j,W,abk hc ds]
 delta qx;obtain q|⟨j,W⟩:=fu k.table;.walk
 .rw[j,W];clear j W;cases k with
  |refers t cs u ds=>dsimp;rw[fa,abk hc]
  |groups t cs a lo hi=>dsimp;rw[abk hc,hu]
  |fixes t cs ds=>dsimp;rw[abk hc,abk hc]
  |_=>dsimp;rw[abk hc]
def ajl(h:U∈cw s T2):U=T2\/U∈s:=by grind[cw]
def bfn:((cw s T2).map λT=>T.name)=s.map λT=>T.name:=by delta cw;grind[jw]
def auo(h:mh n b)(hx:bw b.tables x=aa T)(hn:T2.name=T.name)(hc:T2.cols=T.cols)(hG:ui T2)(ks)
 (q:ks=b.kept.map λk=>{k with breakers:=a8 (cw b.tables T2) k.claim}):mh (n+1) (b.onto (cw b.tables T2) ks).1:=by
 let W:ks.length=b.kept.length:=by rw[q,bt]
 let h12:=h.uj;let hts:∀t,t∈KA b.day b.kept ks->t.day=b.day/\t.claim<12:=λt j=>by delta KA at j;grind
 let htl:(KA b.day b.kept ks).length<=12:=by show jh (axn _ _) ?_;rw[List.length_zipIdx,axh];lia
 show⟨λU hU=>?_,by change((cw b.tables T2).map λT=>T.name).Nodup;erw[bfn,h.names],by change(cw b.tables T2).length<=3;delta cw;erw[bt,h.t3],by change ks.length<=12;lia,λk hk=>?_,by let:=h.day;change b.day<=_;lia,?_,by let:=h.days;change b.days.length<=_;lia,λt j=>?_,λd hd=>?_⟩
 .obtain rfl|hU:=ajl hU;.show hG
  .show h.tabs U hU
 .rw[q]at hk;let⟨k0,hk0,rfl⟩:=gx.mp hk;let ok:=h.kept k0 hk0;show⟨⟨ok.cl.tr,ok.cl.dp,by change k0.claim.good (cw b.tables T2)=ae;erw[ajk hx hn hc,ok.cl.good]⟩,rfl,ok.ow,ok.lv⟩
 .change((KA b.day b.kept ks).reverse++b.turns).length<=_;rw[e9,J9];let:=h.turns;lia
 .obtain j|j:=sh.mp j;.let⟨h1,h2⟩:=hts t (bkt.mp j);show⟨by let:=h.day;lia,h2⟩
  .show⟨by let:=(h.tc t j).1;lia,(h.tc t j).2⟩
 .change d.length<=ks.length;erw[W,h.dl d hd]
def aup(s:jq)(P)(e):EC ⟨(s.now.onto P (s.now.kept.map λk=>{k with breakers:=a8 P k.claim})).1,e⟩=
 [BN P,.lst (s.now.kept.map B2),.lst (s.now.kept.map (AX∘λk=>a8 P k.claim)),DP s.now,C7 ((KA s.now.day s.now.kept (s.now.kept.map λk=>{k with breakers:=a8 P k.claim})).reverse++s.now.turns),AZ s.now.day,.lst (e.reverse.map DE)]:=by
 let h1:DO (s.now.kept.map λk=>{k with breakers:=a8 P k.claim})=.lst (s.now.kept.map B2):=by delta DO;rw[el];rfl
 let h2:C0 (s.now.kept.map λk=>{k with breakers:=a8 P k.claim})=.lst (s.now.kept.map (AX∘λk=>a8 P k.claim)):=by simp[C0]
 let j:DP (s.now.onto P (s.now.kept.map λk=>{k with breakers:=a8 P k.claim})).1=DP s.now:=by change D.lst ((e6 (s.now.kept.map λk=>{k with breakers:=a8 P k.claim}).length).map _)=_;rw[bt];rfl
 change[BN P,DO (s.now.kept.map λk=>{k with breakers:=a8 P k.claim}),C0 (s.now.kept.map λk=>{k with breakers:=a8 P k.claim}),DP (s.now.onto P _).1,_,_,_]=_;rw[h1,h2,j];rfl
def AFT:DL.Ctx:={N:=["keeper","name","text","row","table","breakers","claim","before"],cls:=λj=>0,k:=0,fields:=FL,eg:=DI [("read_tree",HF),("is_row",IE),("row_fits",IF),("Table",EY),("breakers_behind_put",LQ)],gq:=DJ [("MOST_ROWS",(.int 40))]}
def YZ(l:ab D):D->ab Sl->ah Out:=D3 (wm (bare AFT) [⟨"keeper","Keeper",kn,l⟩]) (AO (top 82)) 13 (D9 (BC (top 82)) 10)
def bfo(ts c b h u d st cl bf)(nm tx j q)(acc)(X Y):YZ [ts,c,b,h,u,d,st] (.tup [cl,bf]) [.no,.val nm,.val tx,.val j,.val q,.own acc,X,Y]=
 ((AF (A8 FL "tree" (aa cl)) (aa [bf,ts,nm])).bind LQ).bind λx=>if acc.length<aw then aa (.next [.no,.val nm,.val tx,.val j,.val q,.own (acc++[x]),.val cl,.val bf])else none:=by rfl
def bfp(c b h u d st tx j q):∀(ks:ab jo)(acc)(X Y),(∀k,k∈ks->LQ [AE k.claim.tree,AX k.breakers,BN s2,nm]=aa (AX (a8 s2 k.claim)))->acc.length+ks.length<100000->
 ∃W Y',AU (YZ [BN s2,c,b,h,u,d,st]) (CU (ks.map B2) (ks.map λk=>AX k.breakers)) [.no,.val nm,.val tx,.val j,.val q,.own (acc.map AX),X,Y]=
  aa (.next [.no,.val nm,.val tx,.val j,.val q,.own ((acc++ks.map λk=>a8 s2 k.claim).map AX),W,Y']):=by
 intro ks;induction ks with
 |nil=>show λacc X Y _ _=>⟨X,Y,by rw[show(([]:ab jo).map λk=>a8 s2 k.claim)=[]from rfl,ip];rfl⟩
 |cons k ks I=>intro acc X Y hk hl;let e:=f6;show iy (I (acc++[a8 s2 k.claim]) (.val (B2 k)) (.val (AX k.breakers)) (λk' hk'=>hk k' yA) (by grind)) λW Y' ih=>?_;rw[b9,b9,CU,AU,bfo,show A8 FL "tree" _=aa (AE k.claim.tree)from rfl,cv,b5,hk k yS,b5];grind
def bfq(h:ik n s)(hn:n<=1000)(x bs)(hb:bs.length<=6000):FY LZ n s [.d (.str (Tx x)),.d (.str (Tx bs))] (o6 s (.put x bs)):=by
 let e:=f6;let hrd:=aiv bs yL;let start:LZ [kA s,.d (.str (Tx x)),.d (.str (Tx bs))]=a7 AQ (AI (AA .NotIn (.str (Tx x)) (BN s.now.tables)) _ _):=rfl;delta FY;generalize hg:o6 s (.put x bs)=r;let hg:HN s (gf s.now (.put x bs))=r:=hg;let hd:gf s.now (.put x bs)=(match s.now.tables.find x with
  |none=>(s.now,[-3])
  |some T=>(match bkz T.cols bs with
   |.error e=>(s.now,[e])
   |.ok y=>if aj5<=T.rows.length then(s.now,[-6])else((akd s.now T y).1,ake T.rows.length::axp (akd s.now T y).2))):=rfl;rw[start,ajd h.now,cx];cases hT:bw s.now.tables x with
 |none=>rw[hT]at hd;show leaf h (-3) yD hg hd rfl
 |some T=>
  rw[hT]at hd;dsimp only at hd;delta bkz at hd;rw[ao yS];let hG:=h.now.tabs T (Q8 hT);let hnm:T.name=x:=MM.find_name hT;let hwx:i4 x=true:=by erw[<-hnm,hG.nm]
  change a7 AQ (a5 (CG (a5 (HF [.str (Tx bs)]) _)) _)=_/\_;rw[hrd];cases hr:rg bs with
  |none=>rw[hr]at hd;show leaf h (-1) yD hg hd rfl
  |some y=>
   rw[hr]at hd;dsimp only at hd;let hIs:AA .Is (AE y) .bj=aa (.bl ag):=by cases y<;>rfl
   let hRow:=asl y;rw[show PK (aa y)=AE y from rfl];generalize hYY:AE y=YY at hIs hRow;change a7 AQ (AI (AA .Is YY .bj) _ _)=_/\_;rw[hIs];change a7 AQ (AI (BA (IE [YY])) _ _)=_/\_;rw[hRow];cases ht:y6 y with
   |none=>rw[ht]at hd;show leaf h (-2) yD hg hd rfl
   |some rw_=>
    rw[ht]at hd;dsimp only at hd;let hy:AE y=AY rw_:=by rw[ats ht,auc]
    let htab:BF T=.obj "Table" ["name","columns","rows","places"] [.str (S T.name),CZ T.cols,B6 T.rows,C4 T.cols]:=rfl;change a7 AQ (a5 (CG (a5 (AB (BN s.now.tables) (.str (Tx x))) _)) _)=_/\_;rw[ajc h.now,hT,j4,htab];generalize hCC:CZ T.cols=CC;generalize hRR:B6 T.rows=RR;let hfit:IF [YY,CC]=aa (.bl (lu T.cols rw_)):=by rw[<-hYY,<-hCC,hy,asn]
    let hlen:AM [RR]=aa (.int (((T.rows.length:ai)):ak)):=by erw[<-hRR,acw T]
    change a7 AQ (AI (BA (IF [YY,CC])) _ _)=_/\_;rw[hfit,lm,cx];by_cases q4:lu T.cols rw_=ae
    .rw[aj q4]at hd;dsimp only at hd;rw[q4,ao yD];change a7 AQ (AI (AG (AA .Eq) (AM [RR]) (aa (.int 40))) _ _)=_/\_;rw[hlen,dm,vt,cx];let h40:T.rows.length<=40:=hG.ok.cnt;by_cases q6:aj5<=T.rows.length;.let q6':40<=T.rows.length:=q6;rw[aj q6]at hd;erw[aj (by simp;lia),leaf h (-6) yD hg hd rfl]
     .let q6':¬40<=T.rows.length:=q6;rw[ao q6]at hd;rw[ao (by simp;lia)];change a7 AQ (a5 (a5 (E7 [kA s]) _) _)=_/\_;rw[ac2 h.qe];let hG2:ui (MM.BD T rw_):=⟨⟨hG.ok.MF,λr hr=>by
       let:r∈T.rows++[rw_]:=hr;obtain hr|hr:=sh.mp this;.show hG.ok.fit r hr
       .erw[fq.mp hr,q4],by rw[MM.r9];change T.rows.length+1<=40;lia⟩,hG.nm,hG.c6,hG.cn,hG.ck⟩;let hc6:=hG.c6;let hTb:(AF (aa (.str (Tx x))) (AF (aa CC) (AF (AG BI (aa RR) ((AF (aa YY) (aa [])).map D.tup)) (aa [])))).bind EY=aa (BF (MM.BD T rw_)):=by
       let:AG BI (aa RR) ((AF (aa YY) (aa [])).map D.tup)=aa (B6 (T.rows++[rw_])):=by rw[<-hRR,<-hYY,hy];change(if(T.rows.map AY).length+1<=aw then aa (D.tup (T.rows.map AY++[AY rw_]))else af)=_;rw[aj (by rw[bt];lia)];delta B6;rw[fe];rfl
       erw[this,cv,cv,cv,b5,aan hwx,<-hnm,<-hCC,aiw (T:=MM.BD T rw_) hG.ok.MF (by change T.cols.length<4000;lia)]
      generalize hTT:BF (MM.BD T rw_)=TT at hTb;change a7 AQ (a5 (a5 (a7 _ (a5 ((AF (aa (.str (Tx x))) (AF (aa CC) (AF (AG BI (aa RR) ((AF (aa YY) (aa [])).map D.tup)) (aa [])))).bind EY) _)) _) _)=_/\_;rw[hTb];change a7 AQ (a5 (a5 (GS [kA (E9 s),.d TT]) _) _)=_/\_;rw[<-hTT,auh (s:=E9 s) (T0:=T) h.now.t3 (by change bw s.now.tables T.name=aa T;erw[hnm,hT])];let st2:GZ (cw s.now.tables (MM.BD T rw_)):=λU hU=>by
       obtain rfl|hU:=ajl hU;.show hG2.ok
       .show h.now.st U hU
      let h12:=h.now.uj;let htl:=h.now.turns;show iy (bfp (s2:=cw s.now.tables (MM.BD T rw_)) (nm:=.str (Tx x)) (DO s.now.kept) (C0 s.now.kept) (DP s.now) (C7 s.now.turns) (AZ s.now.day) (.lst (((s.now::s.earlier).take 10).reverse.map DE)) (.str (Tx bs)) YY (.obj "Table" ["name","columns","rows","places"] [.str (S T.name),CC,RR,C4 T.cols]) s.now.kept [] .no .no (λk hk=>by let ok:=h.now.kept k hk;erw[ok.br,aan hwx,bdf hT st2 ⟨ok.cl.tr,ok.cl.dp,by erw[ajk (T2:=MM.BD T rw_) hT rfl rfl,ok.cl.good]⟩ (aul h.now.st)]) (by simp;lia)) λX' Y' hlp=>?_;let hst:EC (P0 (E9 s) (cw s.now.tables (MM.BD T rw_)))=[BN (cw s.now.tables (MM.BD T rw_)),DO s.now.kept,C0 s.now.kept,DP s.now,C7 s.now.turns,AZ s.now.day,.lst (((s.now::s.earlier).take 10).reverse.map DE)]:=rfl;rw[show(E9 s).now.tables=s.now.tables from rfl,hst];rw[qk]at hlp;generalize hTS:BN (cw s.now.tables (MM.BD T rw_))=TS at hlp;generalize hPP:C4 T.cols=PP at hlp;let hcl:DO s.now.kept=.lst (s.now.kept.map B2):=rfl;let hbk:C0 s.now.kept=.lst (s.now.kept.map λk=>AX k.breakers):=rfl;generalize hST:(.lst (((s.now::s.earlier).take 10).reverse.map DE):D)=ST at hlp;generalize hHI:DP s.now=HI at hlp;generalize hTU:C7 s.now.turns=TU at hlp;generalize hDY:AZ s.now.day=DY at hlp;rw[hcl,hbk]at hlp⊢;change a7 AQ (a5 (CG (BO (AU (YZ [TS,.lst (s.now.kept.map B2),.lst (s.now.kept.map λk=>AX k.breakers),HI,TU,DY,ST]) (CU (s.now.kept.map B2) (s.now.kept.map λk=>AX k.breakers)) [.no,.val (.str (Tx x)),.val (.str (Tx bs)),.val YY,.val (.obj "Table" ["name","columns","rows","places"] [.str (S T.name),CC,RR,PP]),.own (([]:QA).map AX),.no,.no]) _)) _)=_/\_;rw[hlp];let hpf:akd s.now T rw_=s.now.onto (cw s.now.tables (MM.BD T rw_)) (s.now.kept.map λk=>{k with breakers:=a8 (cw s.now.tables (MM.BD T rw_)) k.claim}):=by delta akd;dsimp only;show eh (s.now.onto _) (jw λk hk=>?_);let:=MM.a_i (r:=rw_) hT k.claim;rw[<-(h.now.kept k hk).br,<-hnm]at this;show eh (λb=>({k with breakers:=b}:jo)) this
      rw[hd,afc rfl,hpf]at hg;subst hg;let hHB:=ajj (t:=TS) (c:=.lst (s.now.kept.map B2)) (h:=HI) (st:=ST) (day:=s.now.day) (bf:=s.now.kept.map λk=>k.breakers) (bh:=s.now.kept.map λk=>a8 (cw s.now.tables (MM.BD T rw_)) k.claim) (us:=s.now.turns) (by rw[bt];lia) yL;rw[hTU,hDY,el,show((AX∘λk:jo=>k.breakers))=λk=>AX k.breakers from rfl]at hHB;let htt:=aun s.now.day s.now.kept (s.now.kept.map λk=>{k with breakers:=a8 (cw s.now.tables (MM.BD T rw_)) k.claim}) (by rw[bt]);rw[el,show((λk:jo=>k.breakers)∘λk:jo=>{k with breakers:=a8 (cw s.now.tables (MM.BD T rw_)) k.claim})=λk=>a8 (cw s.now.tables (MM.BD T rw_)) k.claim from rfl]at htt;rw[htt]at hHB;generalize hNL:(s.now.kept.map λk=>a8 (cw s.now.tables (MM.BD T rw_)) k.claim).map AX=NL at hHB;change a7 AQ (a5 ((AF (AM [RR]) (aa [])).map D.lst) _)=_/\_;rw[hlen];change a7 AQ (a5 (a5 (HG [.m "Keeper" kn [TS,.lst (s.now.kept.map B2),.lst (s.now.kept.map λk=>AX k.breakers),HI,TU,DY,ST],.d (.lst NL)]) _) _)=_/\_;rw[hHB];let r:=ac3 h;show⟨?_,auo (T2:=MM.BD T rw_) h.now hT rfl rfl hG2 _ rfl,r.old,r.qe⟩;change aa ([(kn,[TS,.lst (s.now.kept.map B2),.lst NL,HI,C7 ((KA s.now.day s.now.kept (s.now.kept.map λk=>{k with breakers:=a8 (cw s.now.tables (MM.BD T rw_)) k.claim})).reverse++s.now.turns),DY,ST])],_)=_;rw[<-hTS,<-hNL,<-hHI,<-hDY,<-hST,el,aup];rfl
    .rw[ao q4]at hd;erw[show lu T.cols rw_=ag by simpa using q4,leaf h (-4) yD hg hd rfl]
def AFU:DL.Ctx:={N:=["keeper","number","name","table","left","breakers","claim","before"],cls:=λj=>0,k:=0,fields:=FL,eg:=DI [("Table",EY),("breakers_behind_take",LR)],gq:=DJ []}
def Y0(l:ab D):D->ab Sl->ah Out:=D3 (wm (bare AFU) [⟨"keeper","Keeper",kn,l⟩]) (AO (top 83)) 16 (D9 (BC (top 83)) 7)
def bfr(ts c b h u d st cl bf)(nr nm j q)(acc)(X Y):Y0 [ts,c,b,h,u,d,st] (.tup [cl,bf]) [.no,.val nr,.val nm,.val j,.val q,.own acc,X,Y]=
 ((AF (A8 FL "tree" (aa cl)) (aa [bf,ts,nm,nr])).bind LR).bind λx=>if acc.length<aw then aa (.next [.no,.val nr,.val nm,.val j,.val q,.own (acc++[x]),.val cl,.val bf])else none:=by rfl
def bfs(c b h u d st j lf):∀(ks:ab jo)(acc)(X Y),(∀k,k∈ks->LR [AE k.claim.tree,AX k.breakers,BN s2,nm,nr]=aa (AX (a8 s2 k.claim)))->acc.length+ks.length<100000->
 ∃q W,AU (Y0 [BN s2,c,b,h,u,d,st]) (CU (ks.map B2) (ks.map λk=>AX k.breakers)) [.no,.val nr,.val nm,.val j,.val lf,.own (acc.map AX),X,Y]=
  aa (.next [.no,.val nr,.val nm,.val j,.val lf,.own ((acc++ks.map λk=>a8 s2 k.claim).map AX),q,W]):=by
 intro ks;induction ks with
 |nil=>show λacc X Y _ _=>⟨X,Y,by rw[show(([]:ab jo).map λk=>a8 s2 k.claim)=[]from rfl,ip];rfl⟩
 |cons k ks I=>intro acc X Y hk hl;rw[d6]at hl;let e:=f6;let⟨q,W,ih⟩:=I (acc++[a8 s2 k.claim]) _ _ (λk' hk'=>hk k' yA) (by grind);show m9 q W ?_;rw[b9,b9,CU,AU,bfr,show A8 FL "tree" _=aa (AE k.claim.tree)from rfl,cv,b5,hk k yS,b5,bt,aj yL];rw[jl,fe]at ih;show ih
def bft(rs)(i:ai)(hi:i<rs.length)(hl:rs.length<=40):AG BI (BZ (aa (B6 rs)) af (aa (aa (.int i)))) (BZ (aa (B6 rs)) (aa (AG BI (aa (.int i)) (aa (.int 1)))) af)=aa (B6 (rs.eraseIdx i)):=by
 let e:=f6;let j:(rs.map AY).length=rs.length:=bt _;let q:BZ (aa (B6 rs)) af (aa (aa (.int i)))=aa (.tup ((rs.map AY).take i)):=by change(if HT.BL (rs.map AY).length 0 af=0/\HT.BL (rs.map AY).length (rs.map AY).length _=(rs.map AY).length then af else aa _)=_;rw[HT.aax,j,ao yL];delta DL.cutD;rw[HT.aax,HT.alo,j,akf yL];rfl
 let s2:BZ (aa (B6 rs)) (aa (AG BI (aa (.int (i))) (aa (.int 1)))) af=aa (.tup ((rs.map AY).drop (i+1))):=by change(if HT.BL (rs.map AY).length 0 _=0/\HT.BL (rs.map AY).length (rs.map AY).length af=(rs.map AY).length then af else aa _)=_;rw[show(_:ak)+1=(i+1:ai)by lia,HT.aax,j,ao (by lia)];delta DL.cutD;rw[HT.aax,HT.alo,j,akf yL];simp[U1,MV]
 rw[q,s2];change(if((rs.map AY).take i).length+((rs.map AY).drop _).length<=aw then aa (D.tup _)else af)=_;rw[aj (by grind)];delta B6;rw[List.eraseIdx_eq_take_drop_succ,fe,bk0,aka]
def bfu(h:ik n s)(hn:n<=1000)(v)(x):FY L1 n s [.d (.int v),.d (.str (Tx x))] (o6 s (.take v x)):=by
 let e:=f6;let start:L1 [kA s,.d (.int v),.d (.str (Tx x))]=a7 AQ (AI (AA .NotIn (.str (Tx x)) (BN s.now.tables)) _ _):=rfl;delta FY;generalize hg:o6 s (.take v x)=r;let hg:HN s (gf s.now (.take v x))=r:=hg;let hd:gf s.now (.take v x)=(match s.now.tables.find x with
  |none=>(s.now,[-3])
  |some T=>if v<0\/ake T.rows.length<=v then(s.now,[-4])else((akg s.now T v.toNat).1,ake (T.rows.length-1)::axp (akg s.now T v.toNat).2)):=rfl;rw[start,ajd h.now,cx];cases hT:bw s.now.tables x with
 |none=>rw[hT]at hd;show leaf h (-3) yD hg hd rfl
 |some T=>
  rw[hT]at hd;dsimp only at hd;rw[ao yS];let hG:=h.now.tabs T (Q8 hT);let hnm:T.name=x:=MM.find_name hT;let hwx:i4 x=true:=by erw[<-hnm,hG.nm]
  let htab:BF T=.obj "Table" ["name","columns","rows","places"] [.str (S T.name),CZ T.cols,B6 T.rows,C4 T.cols]:=rfl;change a7 AQ (a5 (CG (a5 (AB (BN s.now.tables) (.str (Tx x))) _)) _)=_/\_;rw[ajc h.now,hT,j4,htab];let hlen:AM [B6 T.rows]=aa (.int (((T.rows.length:ai)):ak)):=acw T;let h40:T.rows.length<=40:=hG.ok.cnt;let hleft:=bft T.rows v.toNat;generalize hCC:CZ T.cols=CC;generalize hRR:B6 T.rows=RR at hlen hleft;generalize hPP:C4 T.cols=PP;change a7 AQ (AI (A7 (AA .Lt (.int v) (.int 0)) (AG (AA .GtE) (aa (.int v)) (AM [RR]))) _ _)=_/\_;rw[hlen,dm,xg,aeh,nz];by_cases q4:v<0\/ake T.rows.length<=v
  .let q4':v<0\/(T.rows.length:ak)<=v:=q4;rw[aj q4]at hd;let:(if decide (v<0)=ae then aa (D.bl ae)else aa (D.bl (decide (((T.rows.length:ai):ak)<=v))))=aa (.bl ae):=by
    by_cases z:v<0;.rw[gm z];rfl
    .rw[gi z,gm (show((T.rows.length:ai):ak)<=v by lia)];rfl
   erw[this,leaf h (-4) yD hg hd rfl]
  .let q4':¬(v<0\/(T.rows.length:ak)<=v):=q4;rw[ao q4]at hd;rw[gi (show¬v<0 by lia),ao yD,gi (show¬((T.rows.length:ai):ak)<=v by lia),cx,ao yD];let hv0:v=((v.toNat:ai):ak):=yL;let hi:v.toNat<T.count:=by change v.toNat<T.rows.length;lia
   let hleft:=hleft hi h40;rw[<-hv0]at hleft;change a7 AQ (a5 (a5 (E7 [kA s]) _) _)=_/\_;rw[ac2 h.qe];let hG2:ui (MM.BH T v.toNat):=⟨⟨hG.ok.MF,λr hr=>hG.ok.fit r (List.mem_of_mem_eraseIdx hr),by rw[MM.ug hi];change T.rows.length-1<=40;lia⟩,hG.nm,hG.c6,hG.cn,hG.ck⟩;let hc6:=hG.c6;let hlenL:AM [B6 (T.rows.eraseIdx v.toNat)]=aa (.int (((T.rows.length-1:ai)):ak)):=by change AM [.tup _]=_;change aa (D.int _)=_;rw[bt,List.length_eraseIdx,aj (show v.toNat<T.rows.length from hi)]
   let hTb:EY [.str (Tx x),CC,B6 (T.rows.eraseIdx v.toNat)]=aa (BF (MM.BH T v.toNat)):=by erw[aan hwx,<-hnm,<-hCC,aiw (T:=MM.BH T v.toNat) hG.ok.MF (by change T.cols.length<4000;lia)]
   generalize hLL:B6 (T.rows.eraseIdx v.toNat)=LL at hleft hTb hlenL;change a7 AQ (a5 (CG (a5 (AG BI (BZ (aa RR) af (aa (aa (.int v)))) (BZ (aa RR) (aa (AG BI (aa (.int v)) (aa (.int 1)))) af)) _)) _)=_/\_;rw[hleft];generalize hTT:BF (MM.BH T v.toNat)=TT at hTb;change a7 AQ (a5 (a5 (a7 _ (a5 (EY [.str (Tx x),CC,LL]) _)) _) _)=_/\_;rw[hTb];change a7 AQ (a5 (a5 (GS [kA (E9 s),.d TT]) _) _)=_/\_;rw[<-hTT,auh (s:=E9 s) (T0:=T) h.now.t3 (by change bw s.now.tables T.name=aa T;erw[hnm,hT])];let st2:GZ (cw s.now.tables (MM.BH T v.toNat)):=λU hU=>by
    obtain rfl|hU:=ajl hU;.show hG2.ok
    .show h.now.st U hU
   let h12:=h.now.uj;let htl:=h.now.turns;show iy (bfs (s2:=cw s.now.tables (MM.BH T v.toNat)) (nm:=.str (Tx x)) (nr:=.int v) (DO s.now.kept) (C0 s.now.kept) (DP s.now) (C7 s.now.turns) (AZ s.now.day) (.lst (((s.now::s.earlier).take 10).reverse.map DE)) (.obj "Table" ["name","columns","rows","places"] [.str (S T.name),CC,RR,PP]) LL s.now.kept [] .no .no (λk hk=>by let ok:=h.now.kept k hk;rw[ok.br,aan hwx];let hP:=bdi (t:=k.claim.tree) (k:=k.claim) hT hi st2 ⟨ok.cl.tr,ok.cl.dp,by erw[ajk (T2:=MM.BH T v.toNat) hT rfl rfl,ok.cl.good]⟩ (aul h.now.st);rw[<-hv0]at hP;show hP) (by simp;lia)) λX' Y' hlp=>?_;let hst:EC (P0 (E9 s) (cw s.now.tables (MM.BH T v.toNat)))=[BN (cw s.now.tables (MM.BH T v.toNat)),DO s.now.kept,C0 s.now.kept,DP s.now,C7 s.now.turns,AZ s.now.day,.lst (((s.now::s.earlier).take 10).reverse.map DE)]:=rfl;rw[show(E9 s).now.tables=s.now.tables from rfl,hst];rw[qk]at hlp;generalize hTS:BN (cw s.now.tables (MM.BH T v.toNat))=TS at hlp;let hcl:DO s.now.kept=.lst (s.now.kept.map B2):=rfl;let hbk:C0 s.now.kept=.lst (s.now.kept.map λk=>AX k.breakers):=rfl;generalize hST:(.lst (((s.now::s.earlier).take 10).reverse.map DE):D)=ST at hlp;generalize hHI:DP s.now=HI at hlp;generalize hTU:C7 s.now.turns=TU at hlp;generalize hDY:AZ s.now.day=DY at hlp;rw[hcl,hbk]at hlp⊢;change a7 AQ (a5 (CG (BO (AU (Y0 [TS,.lst (s.now.kept.map B2),.lst (s.now.kept.map λk=>AX k.breakers),HI,TU,DY,ST]) (CU (s.now.kept.map B2) (s.now.kept.map λk=>AX k.breakers)) [.no,.val (.int v),.val (.str (Tx x)),.val (.obj "Table" ["name","columns","rows","places"] [.str (S T.name),CC,RR,PP]),.val LL,.own (([]:QA).map AX),.no,.no]) _)) _)=_/\_;rw[hlp];let hpf:akg s.now T v.toNat=s.now.onto (cw s.now.tables (MM.BH T v.toNat)) (s.now.kept.map λk=>{k with breakers:=a8 (cw s.now.tables (MM.BH T v.toNat)) k.claim}):=by delta akg;dsimp only;show eh (s.now.onto _) (jw λk hk=>?_);let:=MM.art hT hi k.claim;rw[<-(h.now.kept k hk).br,<-hnm]at this;show eh (λb=>({k with breakers:=b}:jo)) this
   rw[hd,afc rfl,hpf]at hg;subst hg;let hHB:=ajj (t:=TS) (c:=.lst (s.now.kept.map B2)) (h:=HI) (st:=ST) (day:=s.now.day) (bf:=s.now.kept.map λk=>k.breakers) (bh:=s.now.kept.map λk=>a8 (cw s.now.tables (MM.BH T v.toNat)) k.claim) (us:=s.now.turns) (by rw[bt];lia) yL;rw[hTU,hDY,el,show((AX∘λk:jo=>k.breakers))=λk=>AX k.breakers from rfl]at hHB;let htt:=aun s.now.day s.now.kept (s.now.kept.map λk=>{k with breakers:=a8 (cw s.now.tables (MM.BH T v.toNat)) k.claim}) (by rw[bt]);rw[el,show((λk:jo=>k.breakers)∘λk:jo=>{k with breakers:=a8 (cw s.now.tables (MM.BH T v.toNat)) k.claim})=λk=>a8 (cw s.now.tables (MM.BH T v.toNat)) k.claim from rfl]at htt;rw[htt]at hHB;generalize hNL:(s.now.kept.map λk=>a8 (cw s.now.tables (MM.BH T v.toNat)) k.claim).map AX=NL at hHB;change a7 AQ (a5 ((AF (AM [LL]) (aa [])).map D.lst) _)=_/\_;rw[hlenL];change a7 AQ (a5 (a5 (HG [.m "Keeper" kn [TS,.lst (s.now.kept.map B2),.lst (s.now.kept.map λk=>AX k.breakers),HI,TU,DY,ST],.d (.lst NL)]) _) _)=_/\_;rw[hHB];let r:=ac3 h;show⟨?_,auo (T2:=MM.BH T v.toNat) h.now hT rfl rfl hG2 _ rfl,r.old,r.qe⟩;change aa ([(kn,[TS,.lst (s.now.kept.map B2),.lst NL,HI,C7 ((KA s.now.day s.now.kept (s.now.kept.map λk=>{k with breakers:=a8 (cw s.now.tables (MM.BH T v.toNat)) k.claim})).reverse++s.now.turns),DY,ST])],_)=_;rw[<-hTS,<-hNL,<-hHI,<-hDY,<-hST,el,aup];rfl
noncomputable def cD(ns:ab ak)(p:ai):ab D:=[.fl (ns.map D.int),.int (p:ai)]
def bfv(j:BQ l (p+1-1)=aa d):CO [.m "Cursor" cn [.fl l,.int p]]=aa ([(cn,[.fl l,.int (p+1)])],d):=by change a7 AQ (a7 _ (BQ l _))=_;rw[j];rfl
def auq{j:Type}{ns r:ab j}{z}(h:ns.drop p=z::r):ns[p]?=aa z/\ns.drop (p+1)=r/\p<ns.length:=by grind[Q7,yi]
def xn(h:ns.drop p=z::r):CO [.m "Cursor" cn (cD ns p)]=aa ([(cn,cD ns (p+1))],.int z)/\ns.drop (p+1)=r/\p+1<=ns.length:=by
 show d9 (auq h) λC h2 j=>⟨((bfv (d:=.int z) ?_).trans ?_),h2,j⟩;.grind[p8]
 rfl
noncomputable def eRT(g:ab D->ah D):eu:=GN {N:=["self","start"],cls:=λj=>0,k:=0,fields:=FL,eg:=DI [("text_of",g)],gq:=DJ []} ⟨FJ [],E6 []⟩ (AO (inClass (top 116) 3)) 24 ["self"] (BC (inClass (top 116) 3))
def bfw{l}{p m}{d}(j:BQ l p=aa (.int m))(q:g [.lst (DL.cutD l (aa (p+1)) (aa (p+1+m)))]=aa d):eRT g [.m "Cursor" cn [.fl l,.int p]]=aa ([(cn,[.fl l,.int (p+1+m)])],d):=by change a7 AQ (a5 (AG BI _ (BQ l p)) _)=_;rw[j];change a7 AQ (a7 _ (g [.lst _]))=_;rw[q];rfl
def bfx(j:BQ l p=aa (.int m))(q:TK [.lst (DL.cutD l (aa (p+1)) (aa (p+1+m)))]=aa d):CP [.m "Cursor" cn [.fl l,.int p]]=aa ([(cn,[.fl l,.int (p+1+m)])],d):=bfw j q
def xo(h:ns.drop p=l)(hr:V5 l=aa (t,r))(W:∀z,z∈t->0<=z/\z<=255)(hl:t.length<=6000):
 ∃j,p<j/\j<=ns.length/\ns.drop j=r/\CP [.m "Cursor" cn (cD ns p)]=aa ([(cn,cD ns j)],.str (Tx (i5 t))):=by
 cases l with
 |nil=>show nn hr
 |cons n q=>
  let hr:(if 0<=n/\n.toNat<=q.length then aa (q.take n.toNat,q.drop n.toNat)else af)=aa (t,r):=hr;k_lt hr
  .ext hn;cases hr;show d9 (auq h) λC h2 h3=>?_;obtain⟨m,rfl⟩:∃m:ai,n=(m:ak):=⟨n.toNat,yL⟩;rwa[Z3]at hn W hl⊢;let hq:q.length=ns.length-(p+1):=by rw[<-h2,MV]
   show⟨p+1+m,yL,yL,by rw[<-h2,List.drop_drop],((bfx (m:=m) (d:=.str (Tx (i5 (q.take m)))) ?_ ?_).trans ?_)⟩;.rw[p8,i9,C];rfl
   .let hc:DL.cutD (ns.map D.int) (aa (((p:ai):ak)+1)) (aa ((p:ak)+1+m))=(q.take m).map D.int:=by delta DL.cutD;rw[show(p:ai)+1=((p+1:ai):ak)by lia,show(_:ak)+(m:ak)=((p+1+m:ai):ak)by lia,HT.aax,HT.aax,bt,akf yL,akf yL,<-aka,<-bk0,h2,show p+1+m-(p+1)=m by lia]
    erw[hc,bb2 W yL]
   .rfl
  .show nn hr
section
variable{k A c B F E G:ab D}{t o a:D}{v w:ak}
def ch0(C:CP [.m "Cursor" cn c]=aa ([(cn,B)],t))(h2:LX [.m "Keeper" kn k,.d t]=aa ([(kn,A)],a)):FT [.d (.int 0),.m "Keeper" kn k,.m "Cursor" cn c]=aa ([(kn,A),(cn,B)],a):=by change a7 AQ (a5 (a7 _ (a5 (a5 (CP [.m "Cursor" cn c]) _) _)) _)=_;rw[C];change a7 AQ (a5 (LX [.m "Keeper" kn k,.d t]) _)=_;rw[h2];rfl
def an1(C:CO [.m "Cursor" cn c]=aa ([(cn,F)],.int v))(h2:CP [.m "Cursor" cn F]=aa ([(cn,E)],o))(j:CP [.m "Cursor" cn E]=aa ([(cn,G)],t))(q:LY [.m "Keeper" kn k,.d (.int v),.d o,.d t]=aa ([(kn,A)],a)):
 O8 [.m "Keeper" kn k,.m "Cursor" cn c]=aa ([(kn,A),(cn,G)],a):=by change a7 AQ (a5 (a5 (CO [.m "Cursor" cn c]) _) _)=_;rw[C];change a7 AQ (a5 (a5 (CP [.m "Cursor" cn F]) _) _)=_;rw[h2];change a7 AQ (a5 (a7 _ (a7 _ (a7 _ (a5 (a5 (CP [.m "Cursor" cn E]) _) _)))) _)=_;rw[j];change a7 AQ (a5 (LY [.m "Keeper" kn k,.d (.int v),.d o,.d t]) _)=_;rw[q];rfl
def ch1(h:O8 [.m "Keeper" kn k,.m "Cursor" cn c]=aa ([(kn,A),(cn,B)],a)):FT [.d (.int 1),.m "Keeper" kn k,.m "Cursor" cn c]=aa ([(kn,A),(cn,B)],a):=by change a7 AQ (a5 (O8 [.m "Keeper" kn k,.m "Cursor" cn c]) _)=_;rw[h];rfl
def an2(h2:CP [.m "Cursor" cn c]=aa ([(cn,E)],o))(j:CP [.m "Cursor" cn E]=aa ([(cn,G)],t))(q:LZ [.m "Keeper" kn k,.d o,.d t]=aa ([(kn,A)],a)):
 O9 [.m "Keeper" kn k,.m "Cursor" cn c]=aa ([(kn,A),(cn,G)],a):=by change a7 AQ (a5 (a5 (CP [.m "Cursor" cn c]) _) _)=_;rw[h2];change a7 AQ (a5 (a7 _ (a7 _ (a5 (a5 (CP [.m "Cursor" cn E]) _) _))) _)=_;rw[j];change a7 AQ (a5 (LZ [.m "Keeper" kn k,.d o,.d t]) _)=_;rw[q];rfl
def ch2(h:O9 [.m "Keeper" kn k,.m "Cursor" cn c]=aa ([(kn,A),(cn,B)],a)):FT [.d (.int 2),.m "Keeper" kn k,.m "Cursor" cn c]=aa ([(kn,A),(cn,B)],a):=by change a7 AQ (a5 (O9 [.m "Keeper" kn k,.m "Cursor" cn c]) _)=_;rw[h];rfl
def an3(h2:CO [.m "Cursor" cn c]=aa ([(cn,E)],.int v))(j:CP [.m "Cursor" cn E]=aa ([(cn,G)],t))(q:L1 [.m "Keeper" kn k,.d (.int v),.d t]=aa ([(kn,A)],a)):
 PB [.m "Keeper" kn k,.m "Cursor" cn c]=aa ([(kn,A),(cn,G)],a):=by change a7 AQ (a5 (a5 (CO [.m "Cursor" cn c]) _) _)=_;rw[h2];change a7 AQ (a5 (a7 _ (a7 _ (a5 (a5 (CP [.m "Cursor" cn E]) _) _))) _)=_;rw[j];change a7 AQ (a5 (L1 [.m "Keeper" kn k,.d (.int v),.d t]) _)=_;rw[q];rfl
theorem KU(h:PB [.m "Keeper" kn k,.m "Cursor" cn c]=aa ([(kn,A),(cn,B)],a)):FT [.d (.int 3),.m "Keeper" kn k,.m "Cursor" cn c]=aa ([(kn,A),(cn,B)],a):=by change a7 AQ (a5 (PB [.m "Keeper" kn k,.m "Cursor" cn c]) _)=_;rw[h];rfl
def ch9(h:L4 [.m "Keeper" kn k]=aa ([(kn,A)],a)):FT [.d (.int 9),.m "Keeper" kn k,.m "Cursor" cn c]=aa ([(kn,A),(cn,c)],a):=by change a7 AQ (a5 (L4 [.m "Keeper" kn k]) _)=_;rw[h];rfl
def bfy(h:L5 [.m "Keeper" kn k]=aa ([(kn,A)],a)):FT [.d (.int 13),.m "Keeper" kn k,.m "Cursor" cn c]=aa ([(kn,A),(cn,c)],a):=by change a7 AQ (a5 (L5 [.m "Keeper" kn k]) _)=_;rw[h];rfl
def xp{l}(h:f (as.map AD.toD)=aa (BV l)):DM f as=aa (AD.DZ as,BV l):=by delta DM;rw[h,b5,show XU _=ae from by change(intsOf _).isSome=ae;simp[adu]];rfl
def te4(h:OX [.obj "Keeper" kn k]=aa (BV l)):FU [.d (.int 4),.m "Keeper" kn k,.m "Cursor" cn c]=aa ([(kn,k),(cn,c)],BV l):=by change a7 AQ (a5 (DM OX [.m "Keeper" kn k]) _)=_;rw[xp h];rfl
def te8(h:O7 [.obj "Keeper" kn k]=aa (BV l)):FU [.d (.int 8),.m "Keeper" kn k,.m "Cursor" cn c]=aa ([(kn,k),(cn,c)],BV l):=by change a7 AQ (a5 (DM O7 [.m "Keeper" kn k]) _)=_;rw[xp h];rfl
section
variable(C:CO [.m "Cursor" cn c]=aa ([(cn,B)],t))
include C
def te5(h:OY [.obj "Keeper" kn k,t]=aa (BV l)):FU [.d (.int 5),.m "Keeper" kn k,.m "Cursor" cn c]=aa ([(kn,k),(cn,B)],BV l):=by change a7 AQ (a5 (a7 _ (a5 (a5 (CO [.m "Cursor" cn c]) _) _)) _)=_;rw[C];change a7 AQ (a5 (DM OY [.m "Keeper" kn k,.d t]) _)=_;rw[xp (as:=[.m "Keeper" kn k,.d t]) h];rfl
def te6(h:LS [.obj "Keeper" kn k,t]=aa (BV l)):FU [.d (.int 6),.m "Keeper" kn k,.m "Cursor" cn c]=aa ([(kn,k),(cn,B)],BV l):=by change a7 AQ (a5 (a7 _ (a5 (a5 (CO [.m "Cursor" cn c]) _) _)) _)=_;rw[C];change a7 AQ (a5 (DM LS [.m "Keeper" kn k,.d t]) _)=_;rw[xp (f:=LS) (as:=[.m "Keeper" kn k,.d t]) h];rfl
end
def te7(C:CP [.m "Cursor" cn c]=aa ([(cn,B)],t))(h:LU [.obj "Keeper" kn k,t]=aa (BV l)):FU [.d (.int 7),.m "Keeper" kn k,.m "Cursor" cn c]=aa ([(kn,k),(cn,B)],BV l):=by change a7 AQ (a5 (a7 _ (a5 (a5 (CP [.m "Cursor" cn c]) _) _)) _)=_;rw[C];change a7 AQ (a5 (DM LU [.m "Keeper" kn k,.d t]) _)=_;rw[xp (f:=LU) (as:=[.m "Keeper" kn k,.d t]) h];rfl
def bfz(C:CO [.m "Cursor" cn c]=aa ([(cn,B)],t))(h:LV [.obj "Keeper" kn k,t]=aa (BV l)):FU [.d (.int 10),.m "Keeper" kn k,.m "Cursor" cn c]=aa ([(kn,k),(cn,B)],BV l):=by change a7 AQ (a5 (a7 _ (a5 (a5 (CO [.m "Cursor" cn c]) _) _)) _)=_;rw[C];change a7 AQ (a5 (DM LV [.m "Keeper" kn k,.d t]) _)=_;rw[xp (f:=LV) (as:=[.m "Keeper" kn k,.d t]) h];rfl
def bf0(C:CP [.m "Cursor" cn c]=aa ([(cn,B)],t))(h:LW [.obj "Keeper" kn k,t]=aa (BV l)):FU [.d (.int 12),.m "Keeper" kn k,.m "Cursor" cn c]=aa ([(kn,k),(cn,B)],BV l):=by change a7 AQ (a5 (a7 _ (a5 (a5 (CP [.m "Cursor" cn c]) _) _)) _)=_;rw[C];change a7 AQ (a5 (DM LW [.m "Keeper" kn k,.d t]) _)=_;rw[xp (f:=LW) (as:=[.m "Keeper" kn k,.d t]) h];rfl
def bf1(C:CO [.m "Cursor" cn c]=aa ([(cn,E)],.int v))(h2:CO [.m "Cursor" cn E]=aa ([(cn,G)],.int w))(h:OZ [.obj "Keeper" kn k,.int v,.int w]=aa (BV l)):PC [.m "Keeper" kn k,.m "Cursor" cn c]=aa ([(kn,k),(cn,G)],BV l):=by change a7 AQ (a5 (a5 (CO [.m "Cursor" cn c]) _) _)=_;rw[C];change a7 AQ (a5 (a7 _ (a7 _ (a5 (a5 (CO [.m "Cursor" cn E]) _) _))) _)=_;rw[h2];change a7 AQ (a5 (DM OZ [.m "Keeper" kn k,.d (.int v),.d (.int w)]) _)=_;rw[xp (as:=[.m "Keeper" kn k,.d (.int v),.d (.int w)]) h];rfl
def bf2(h:PC [.m "Keeper" kn k,.m "Cursor" cn c]=aa ([(kn,A),(cn,B)],a)):FU [.d (.int 11),.m "Keeper" kn k,.m "Cursor" cn c]=aa ([(kn,A),(cn,B)],a):=by change a7 AQ (a5 (PC [.m "Keeper" kn k,.m "Cursor" cn c]) _)=_;rw[h];rfl
section
variable(C:CO [.m "Cursor" cn c]=aa ([(cn,F)],.int v))
include C
def abl(h2:FT [.d (.int v),.m "Keeper" kn k,.m "Cursor" cn F]=aa ([(kn,A),(cn,B)],BV l)):PD [.m "Keeper" kn k,.m "Cursor" cn c]=aa ([(kn,A),(cn,B)],BV l):=by change a7 AQ (a5 (a5 (CO [.m "Cursor" cn c]) _) _)=_;rw[C];change a7 AQ (a5 (a5 (FT [.d _,.m "Keeper" kn k,.m "Cursor" cn F]) _) _)=_;rw[h2];rfl
def xq(h2:FT [.d (.int v),.m "Keeper" kn k,.m "Cursor" cn F]=aa ([(kn,k),(cn,F)],.bj))(j:FU [.d (.int v),.m "Keeper" kn k,.m "Cursor" cn F]=aa ([(kn,A),(cn,B)],BV l)):
 PD [.m "Keeper" kn k,.m "Cursor" cn c]=aa ([(kn,A),(cn,B)],BV l):=by change a7 AQ (a5 (a5 (CO [.m "Cursor" cn c]) _) _)=_;rw[C];change a7 AQ (a5 (a5 (FT [.d (.int v),.m "Keeper" kn k,.m "Cursor" cn F]) _) _)=_;rw[h2];change a7 AQ (a5 (FU [.d _,.m "Keeper" kn k,.m "Cursor" cn F]) _)=_;rw[j];rfl
end
end
def rows0(h:NR 0 r=aa (xs,t)):xs=[]/\t=r:=by cases h;simp
def aur(h:NR (k+1) r=aa (xs,t)):∃x s ys,V5 r=aa (x,s)/\NR k s=aa (ys,t)/\xs=x::ys:=by delta NR at h;grind
def ac4(h:NR 1 r=aa (xs,t)):∃x,V5 r=aa (x,t)/\xs=[x]:=by grind[aur,rows0]
def aus(h:NR 2 r=aa (xs,t)):∃x y s,V5 r=aa (x,s)/\V5 s=aa (y,t)/\xs=[x,y]:=by grind[aur,ac4]
def mi(j:NS z=aa (n,k))(h:akh NS (z::r)=aa (c,t)):n<=r.length/\∃xs,NR k (r.drop n)=aa (xs,t)/\c=(z::r.take n)::xs:=by delta akh at h;grind
def take1{r:ab ak}(h:1<=r.length):∃v q,r=v::q:=by cases r<;>grind
def xr(h:t.all (λz=>KC z 8)=ae):(∀z,z∈t->0<=z/\z<=255)/\wo t=true:=by
 let k:∀z,z∈t->0<=z/\z<=255:=λz hz=>by grind[KC]
 grind[wo,bn3]
def mj(h:bn4 c=aa k):va s c=o6 s k:=by delta va;rw[h];rfl
def xt{x:NO×ab ak}(h:o6 s k=if akc x.2 then(s,x.2)else(s,x.2)):o6 s k=(s,x.2):=by grind
def AFV(ns:ab ak)(p:ai)(t:ab ak)(n:ai)(s:jq)(r:jq×ab ak):Prop:=
 ∃j,p<j/\j<=ns.length/\ns.drop j=t/\PD [.m "Keeper" kn (EC s),.m "Cursor" cn (cD ns p)]=aa ([(kn,EC r.1),(cn,cD ns j)],BV r.2)/\ik (n+1) r.1
def len_bytes(l):(i5 l).length=l.length:=by simp[i5]
def bf3(hp:ns.drop p=z::r)(hc:akh NS (z::r)=aa (c,t))(ha:bk1 c=ae)(h:ik n s)(hn:n<=1000)(hl:(va s c).2.length<=10000000):
 AFV ns p t n s (va s c):=by
 show d9 (xn hp) λe0 d0 l0=>?_;by_cases z0:z=0;.subst z0;let⟨_,xs,hx,rfl⟩:=mi (n:=0) (k:=1) rfl hc;let⟨x,hx1,rfl⟩:=ac4 hx;let ha:(x.all (fun(z:ak)=>KC z 8)&&decide (x.length<=6000))=true:=ha;rw[cg,tq]at ha;let⟨b1,b2⟩:=xr ha.1;erw[mj (k:=.table (i5 x)) (by change(if wo x=ae then _ else _)=_;rw[aj b2]),lz (xo d0 hx1 b1 ha.2) λp1 q1 q2 q3 q4=>?_];let⟨m1,m2⟩:=bfb h (i5 x) (by erw[len_bytes,ha.2]);show ki p1 yL q2 q3 (abl e0 (ch0 q4 m1)) m2
 by_cases z1:z=1;.subst z1;let⟨hr,xs,hx,rfl⟩:=mi (n:=1) (k:=2) rfl hc;let⟨v,q,rfl⟩:=take1 hr;let⟨o,x,s1,hx1,hy,rfl⟩:=aus hx;let ha:(bk2 v&&_)=true:=ha;rwa[cg,tq]at ha;show ly ha λ_ zq72_1 ht1 ht2=>xA zq72_1 λho1 ho2=>?_;let⟨b1,b2⟩:=xr ho1;let⟨c1,c2⟩:=xr ht1;erw[mj (k:=.claim v (i5 o) (i5 x)) (by change(if(wo o&&wo x)=ae then _ else _)=_;rw[b2,c2];rfl),d9 (xn d0) λe1 d1 l1=>lz (xo d1 hx1 b1 ho2) λp1 q1 q2 q3 q4=>lz (xo q3 hy c1 ht2) λp2 r1 r2 r3 r4=>?_];let⟨m1,m2⟩:=bfm h hn v (i5 o) (i5 x) (by erw[len_bytes,ho2]) (by erw[len_bytes,ht2]);show ki p2 yL r2 r3 (abl e0 (ch1 (an1 e1 q4 r4 m1))) m2
 by_cases z2:z=2;.subst z2;show rj (mi (n:=0) (k:=2) rfl hc) λ_ xs hx zq64_1=>?_;subst zq64_1;let⟨o,x,s1,hx1,hy,rfl⟩:=aus hx;let ha:((o.all (fun(z:ak)=>KC z 8)&&decide (o.length<=6000))&&(x.all (fun(z:ak)=>KC z 8)&&decide (x.length<=6000)))=true:=ha;rwa[cg,tq]at ha;let⟨⟨ho1,ho2⟩,ht1,ht2⟩:=ha;let⟨b1,b2⟩:=xr ho1;let⟨c1,c2⟩:=xr ht1;erw[mj (k:=.put (i5 o) (i5 x)) (by change(if(wo o&&wo x)=ae then _ else _)=_;rw[b2,c2];rfl),lz (xo d0 hx1 b1 ho2) λp1 q1 q2 q3 q4=>lz (xo q3 hy c1 ht2) λp2 r1 r2 r3 r4=>?_];let⟨m1,m2⟩:=bfq h hn (i5 o) (i5 x) (by erw[len_bytes,ht2]);show ki p2 (by lia) r2 r3 (abl e0 (ch2 (an2 q4 r4 m1))) m2
 by_cases z3:z=3;.subst z3;let⟨hr,xs,hx,rfl⟩:=mi (n:=1) (k:=1) rfl hc;let⟨v,q,rfl⟩:=take1 hr;let⟨x,hx1,rfl⟩:=ac4 hx;let ha:(bk2 v&&(x.all (fun(z:ak)=>KC z 8)&&decide (x.length<=6000)))=true:=ha;rwa[cg,tq]at ha;let⟨b1,b2⟩:=xr ha.2.1;erw[mj (k:=.take v (i5 x)) (by change(if wo x=ae then _ else _)=_;rw[aj b2]),d9 (xn d0) λe1 d1 l1=>lz (xo d1 hx1 b1 ha.2.2) λp1 q1 q2 q3 q4=>?_];let⟨m1,m2⟩:=bfu h hn v (i5 x);show ki p1 (by lia) q2 q3 (abl e0 (KU (an3 e1 q4 m1))) m2
 by_cases z4:z=4;.subst z4;let⟨_,xs,hx,rfl⟩:=mi (n:=0) (k:=0) rfl hc;let⟨rfl,rfl⟩:=rows0 hx;erw[mj (k:=.status) rfl,xt (x:=gf s.now .status) rfl,ki (p+1) yL l0 d0 (xq e0 rfl (te4 (bea h))) h.up]
 by_cases z5:z=5;.subst z5;let⟨hr,xs,hx,rfl⟩:=mi (n:=1) (k:=0) rfl hc;let⟨v,q,rfl⟩:=take1 hr;let⟨rfl,rfl⟩:=rows0 hx;let⟨e1,d1,l1⟩:=xn d0;rw[mj (k:=.breakers v) rfl,xt (x:=gf s.now (.breakers v)) rfl]at hl⊢;show ki (p+1+1) yL l1 d1 (xq e0 rfl (te5 e1 (bec h v hl))) h.up
 by_cases z6:z=6;.subst z6;show rj (mi (n:=1) (k:=0) rfl hc) λhr xs hx zq38_1=>?_;subst zq38_1;let⟨v,q,rfl⟩:=take1 hr;let⟨rfl,rfl⟩:=rows0 hx;let⟨e1,d1,l1⟩:=xn d0;erw[mj (k:=.alerts v) rfl,xt (x:=gf s.now (.alerts v)) rfl,ki (p+1+1) (by lia) l1 d1 (xq e0 rfl (te6 e1 (bee h v))) h.up]
 by_cases z7:z=7;.subst z7;let⟨_,xs,hx,rfl⟩:=mi (n:=0) (k:=1) rfl hc;let⟨x,hx1,rfl⟩:=ac4 hx;let ha:(x.all (fun(z:ak)=>KC z 8)&&decide (x.length<=6000))=true:=ha;rw[cg,tq]at ha;let⟨b1,b2⟩:=xr ha.1;erw[mj (k:=.owned (i5 x)) (by change(if wo x=ae then _ else _)=_;rw[aj b2]),xt (x:=gf s.now (.owned (i5 x))) rfl,lz (xo d0 hx1 b1 ha.2) λp1 q1 q2 q3 q4=>ki p1 yL q2 q3 (xq e0 rfl (te7 q4 (beg h (i5 x)))) h.up]
 by_cases z8:z=8;.subst z8;let⟨_,xs,hx,rfl⟩:=mi (n:=0) (k:=0) rfl hc;let⟨rfl,rfl⟩:=rows0 hx;erw[mj (k:=.turns) rfl,xt (x:=gf s.now .turns) rfl,ki (p+1) (by lia) l0 d0 (xq e0 rfl (te8 (bem h hn))) h.up]
 by_cases z9:z=9;.subst z9;let⟨_,xs,hx,rfl⟩:=mi (n:=0) (k:=0) rfl hc;let⟨rfl,rfl⟩:=rows0 hx;rw[mj (k:=.day) rfl];let⟨m1,m2⟩:=bfj h hn;show ki (p+1) yL l0 d0 (abl e0 (ch9 m1)) m2
 by_cases z10:z=10;.subst z10;let⟨hr,xs,hx,rfl⟩:=mi (n:=1) (k:=0) rfl hc;let⟨v,q,rfl⟩:=take1 hr;let⟨rfl,rfl⟩:=rows0 hx;show d9 (xn d0) λe1 d1 l1=>?_;erw[mj (k:=.history v) rfl,xt (x:=gf s.now (.history v)) rfl,ki (p+1+1) (by lia) l1 d1 (xq e0 rfl (bfz e1 (beh h hn v))) h.up]
 by_cases z11:z=11;.clear ha hl hp z0 z1 z10 z2 z3 z4 z5 z6 z7 z8 z9;subst z11;let⟨hr,xs,hx,rfl⟩:=mi (n:=2) (k:=0) rfl hc;let⟨v,q,rfl⟩:=take1 (r:=r) yL;let⟨w,q,rfl⟩:=take1 (r:=q) (by rw[d6]at hr;lia);let⟨rfl,rfl⟩:=rows0 hx;let⟨e1,d1,l1⟩:=xn d0;let⟨e2,d2,l2⟩:=xn d1;erw[mj (k:=.drift v w) rfl,xt (x:=gf s.now (.drift v w)) rfl,ki (p+1+1+1) yL l2 d2 (xq e0 rfl (bf2 (bf1 e1 e2 (bej h v w)))) h.up]
 by_cases z12:z=12;.subst z12;let⟨_,xs,hx,rfl⟩:=mi (n:=0) (k:=1) rfl hc;let⟨x,hx1,rfl⟩:=ac4 hx;let ha:(x.all (fun(z:ak)=>KC z 8)&&decide (x.length<=6000))=true:=ha;rw[cg,tq]at ha;let⟨b1,b2⟩:=xr ha.1;erw[mj (k:=.shown (i5 x)) (by change(if wo x=ae then _ else _)=_;rw[aj b2]),xt (x:=gf s.now (.shown (i5 x))) rfl,lz (xo d0 hx1 b1 ha.2) λp1 q1 q2 q3 q4=>ki p1 (by lia) q2 q3 (xq e0 rfl (bf0 q4 (bev h (i5 x)))) h.up]
 by_cases z13:z=13;.subst z13;show rj (mi (n:=0) (k:=0) rfl hc) λ_ xs hx zq4_1=>?_;subst zq4_1;let⟨rfl,rfl⟩:=rows0 hx;rw[mj (k:=.undo) rfl];let⟨m1,m2⟩:=bff h;show ki (p+1) (by lia) l0 d0 (abl e0 (bfy m1)) m2
 exfalso;delta akh at hc;dsimp only at hc;let:NS z=none:=by delta NS;rw[ao z0,ao z1,ao z2,ao z3,ao z4,ao z5,ao z6,ao z7,ao z8,ao z9,ao z10,ao z11,ao z12,ao z13]
 rw[this]at hc;cases hc
def bf4:∀c,aki c=c
 |[]=>rfl
 |[]::_=>rfl
 |(a::l)::r=>by
  by_cases h0:a=0;rotate_left;by_cases h1:a=1;rotate_left;by_cases h2:a=2;rotate_left;by_cases h3:a=3;rotate_left;by_cases h4:a=4;rotate_left;by_cases h5:a=5;rotate_left;by_cases h6:a=6;rotate_left;by_cases h7:a=7;rotate_left;by_cases h8:a=8;rotate_left;by_cases h9:a=9;rotate_left;by_cases h10:a=10;rotate_left;by_cases h11:a=11;rotate_left;by_cases h12:a=12;rotate_left;by_cases h13:a=13;rotate_left
  .delta aki bn5;iterate 14(show VP (dif_neg ?_) ?_;assumption)
   rfl
  all_goals subst_vars
  iterate 3all_goals try(obtain _|⟨x,l⟩:=l<;>try rfl)
  iterate 3all_goals try(obtain _|⟨x,r⟩:=r<;>try rfl)
def RP(ns q:ab ak)(k:ab D)(p:ai)(j:ab ak):Prop:=∃s n cs f,k=EC s/\ik n s/\n+cs.length<=60/\p<=ns.length/\axr NS f (ns.drop p)=aa cs/\(∀c,c∈cs->bk1 c=ae)/\
 j++akj (axs va s cs)=q
def bf5:ik 0 bk3:=by show⟨⟨(λT j=>nomatch j),ol,gv _,gv _,(λk q=>nomatch q),b8 _,b8 _,b8 _,(λt W=>nomatch W),(λd hd=>nomatch hd)⟩,(λb hb=>nomatch hb),gv _⟩
set_option tactic.hygienic true in
def bf6(hask:axt ns=ae):aq2 ns (V6 ns) (RP ns (V6 ns)):=by
 delta axt at hask;cases hcs:axr NS ns.length ns with
 |none=>rw[hcs]at hask;cases hask
 |some cs=>
  rw[hcs]at hask;dsimp only at hask;rwa[cg]at hask;let⟨⟨⟨⟨_,h60⟩,_⟩,W⟩,hshort⟩:=hask;let hid:cs.map aki=cs:=by rw[show aki=id from funext bf4,aws]
  rw[hid]at W;let hout:V6 ns=akj (axs va bn6 cs):=by unfold V6 PyVadttd.calls;rw[hcs];dsimp only;rw[hid]
  let hlen:=by delta PyFlat.short at hshort;show ff hshort
  delta bn7 at W;rw[cg]at W;let e:=f6;show⟨(ng bk3 0 cs ns.length rfl bf5 yL (gv _) hcs (λc hc=>mr.mp W.1 c hc) (by rw[qk,hout];rfl)),?_,?_⟩;.show λk p told zq85_1 hlt=>lh zq85_1 λs n cs f zq85_2 hs hn hp j hall q=>?_;subst zq85_2;rw[yi hlt]at j;cases f with
   |zero=>cases j
   |succ f=>
    delta axr at j;k_lt j;.cases j
    .ext c t hc;k_lt j;.cases j
     .ext cs' hcs';cases j;rw[d6]at hn;let hpl:akj (axs va s (c::cs'))=_::(va s c).2++akj _:=rfl;rw[hpl]at q;let hlen2:=eh wa q;rw[e9,e9,d6]at hlen2;show zc (bf3 (yi hlt) hc (hall c yS) hs yL yL) λp' g1 g2 g3 g4 g5=>⟨EC (va s c).1,p',(va s c).2,g4,g1,yL,(va s c).1,n+1,cs',f,rfl,g5,yL,g2,by erw[g3,hcs'],λd hd=>hall d (by simp[hd]),?_⟩;erw[jl,q]
  .rintro k p told⟨s,n,cs,f,rfl,hs,hn,hp,j,hall,q⟩hge;rw[Q7 hge]at j;let:cs=[]:=by clear hall hn q;cases f<;>(cases j;rfl)
   subst this;rw[<-q];change told=told++[];rw[ip]
end CK
namespace PySem.W.Fast
lay_x w15016109883689165678 w3820777438163306028 w3503907895358817783 w12227494058931033188 w10075368672243296270 w14410989073637976006 w15554044072406812172 w5673070204622186966 w8184390264150097719 w2853645331112466170 w7786266234659648008 w6323875269453451378 w11669618169406869383 w13776662946091643543 w13234314769667683632 w18365962563165237027 w685412107380731857 w14708933266419931649 w4343884510046942090 w2946041475296191807 w6964801549604393242 w1947247201331488833 w10194061884803823215 w13736922404478748721 w3207371388161172091 w2740759126614320450 w5785718229672338999 w17454039154440256747 w7761346938287760613 w11108979083207398889 w8359128675077986519 w4434133358546747611 w10241615450856488822 w185656376451714960 w18018651082281876664 w4495273432281062269 w3329562254787722640 w6633671540976820020 w11008892864427895274 w3805137797231701706 w15818761433153191392 w3873723282528233318 w4292881987950009126 w13544882042610593765 w16866009699791655491 w11214976522722784542 w9295253062533185905 w14491065120950415059 w45275983745393932 w3380365635652113185 w2695037653618234502 w6149675985095334456 w3741857344496602205 w16464514422905295044 w14284334053047907785 w5460144256183441775 w1811051859984139247 w5641194046228675491 w16300113326591619243 w13989968651564263416 w2324535969217952431 w1288931777649830192 w14241032978471475699 w3352426074482295773 w5220129428406297872 w17330976783489146875 w14209050636963060821 w14109355621831598815 w14661377213846340527 w9541319733706344200 w7661316080176223025 w4612839331615554157 w16109301241827956470 w16248869244355256507 w2997326117971446962 w16899696420968707775 w10710877450528186413 w9651408327557124012 w15369324138557095145 w2111286385705338820 w1889268799429153558 w8802618128748221663 w4244794793968211657 w4543123663964590406 w4266230401786767798 w4599230089185512194 w12010931750945537422 w14565592831070382447 w9007428773040756732 w8246299695863468622 w9391393715837265609 w4466304218212476154 w3675796608385453303 w14331417721027555528 w6329107075605692163 w7198438115348428493 w17405263381473103226 w5356074617369857685 w14076776739149252745 w10352054997243443497 w17374176436274110204 w3309130155442001327 w11786555014305590542 w3604602742120930910 w12703604861274961554 w14505799550492016016 w17798098292292258504 w6090056106422432126 w8854521670491840235 w7951087012202158840 w13905256097667168368 w17303883588240427352 w16670789278696072920 w7725134347905160241 w7109401688938182365 w16241499739177998568 w8957021185370845018 w1087804445186249108 w13892303086838537441 w2486445724522273672 w18342508834388163936 w8918838106417981179 w5446853757876435295 w14662650747212149448 w4401316221163503720 w16195588452491079222 w5336489743175243872 w7721428507855098405 w5520356459322110920 w7672873748030571481 w18114841432889139872 w9782430581035709180 w2772907870388090079 w17676379438628690332 w16551047667786324875 w15857374321358385510 w14171499436118679868 w6825755434376447222 w11900958232626580085 w17133682714092143222 w13862707712097473310 w14612237131708856625 w12796038303057987452 w16730554236958059147 w13592488395942441690 w8624243085395446702 w4235732401275822022 w10257526671456286954 w9094816278483010332 w6671642526903920624 w17224561482743220829 w9913622501888056962 w9178542630776618430 w9044377494275821212 w8273887717231584071 w293923399037917107 w11801259406417692272 w7076983977063107584 w16818716694953446074 w5245804618960214692 w15661743689425053655 w17779159002008237593 w8922531775604044481 w57883240241049980 w15448264616905102621 w2014694806550657527 w402269012097564209 w7322613061608021393 w14592604027672076994 w14765509522052332068 w16522757207067484980 w3837885344364101113 w370575951573302936 w9812983161168501785 w10857669245823120471 w6960299608418260655 w4295013046677260728 w13500360225921746609 w12628283042541094387 w9771302321620630366 w7187586941505187598 w1879831494879237536 w14998930426142542145 w13930389444849097728 w2836509734633251807 w10352656310647063428 w12401708675799585177 w4806021773662167084 w9856403384422766063 w5514278300643448727 w3514295380310387048 w11388445218476908244 w4250658340669185952 w3951154900281827803 w15218430641400589169 w12639581146817257876 w2545210023045290137 w10740995709400107925 w7598153955072886872 w3894544153188893747 w9604439222261397262 w15602007817854189081 w13873668349095440188 w11991902103140310324 w5113437261541421768 w7574389927780228183 w1145278565872359268 w8918164609364592792 w12940332604920171905 w1548583954652591102 w11580663742554845372 w3716963497386927421 w4262290319850081195 w16057428516052301898 w5820907939851403322 w14057632266990636801 w7198652868038239094 w5832919727585367101 w2149647925900121768 w9995901727584358092 w18091420530188973768 w10357871005931982106
end PySem.W.Fast
end
set_option tactic.hygienic true
open PySem PySem.W PyProof.Rows
set_option maxRecDepth 100000 in
set_option maxHeartbeats 0 in
theorem PySem.Challenge.cw_claimskept_s01_answers_holds : PySem.Challenge.rw_claimskept_s01_answers.Holds := by
 w_on;k_headS;(case hw=>exact⟨[.list [.int 4]],by decide+kernel,by decide+kernel⟩)
 k_fillS
 refine L2.a9r (r:=bk4) (k:=104) (CX:=L2.ig) (x:="calls") (sp:=CK.YI) (fun a=>a.1) (fun a=>V6 a.1) (fun _=>rfl) (fun _=>rfl) (by decide+kernel) ⟨rfl,by decide,by decide⟩ (fun w h Y=>PySem.W.kIn_of Y) ?F ?S (fun _ _ _ _ z=>z)
 case F=>
  intro w mg fa h Y KX G hmg
  refine' CK.a9t KX G hmg ?a3 ?l3 ?c3 ?k3 ?iT ?iC ?iK ?iR ?cT ?cC ?cK ?cR ?m1 ?m2 ?m3 ?nT ?nC ?nK ?nR ?HL
  case a3|l3|c3|k3=>k_is
  case iT|iC|iK|iR=>
   refine' CK.a9c KX G ?g ?mk ?a ?i ?kc ?l ?cd ?k (fun _ _ _ _ _ _ us hl=>CK.T3 us hl (by (repeat intro);rfl))
   case g|mk|a|i|kc|l|cd|k=>k_is
  case cT|cC|cK|cR=>exact⟨by k_is,by k_is,by k_is,by k_is⟩
  case m1|m2|m3=>
   refine' CK.a9b ⟨?c1,?c2,?c3,?c4⟩ ?a ?i ?l ?cd ?k (fun _ _ _ _ _ _ us hl=>CK.T3 us hl (by (repeat intro);rfl))
   case c1|c2|c3|c4|a|i|l|cd|k=>k_is
  case nT=>refine⟨?_,?_,?_,?_⟩<;>(unfold L2.BG;k_is)
  case nC=>refine⟨?_,?_,?_⟩<;>(unfold L2.BG;k_is)
  case nK=>refine⟨?_,?_,?_,?_,?_,?_,?_⟩<;>(unfold L2.BG;k_is)
  case nR=>refine⟨?_,?_⟩<;>(unfold L2.BG;k_is)
  case HL=>
   intro cls base fl
   constructor
   case fl=>exact fl
   case bl=>
    refine CK.a9f KX G ?_
    unfold DL.GI
    simp only[bk5]
    refine⟨?_,?_,?_,?_,?_,?_,?_,?_,?_,?_,?_,?_,?_,?_,?_,?_,?_,fun x hx=>nomatch hx⟩<;>k_is
   case X1=>
    refine' CK.aef (xs:=[.str _]) KX G ?a ?l ?z ?v (fun H=>.cons (.str _) .nil)
    case a|l=>k_is
    case z=>decide
    case v=>exact .cons ⟨_,rfl⟩ .nil
   case X2=>
    refine' CK.aef (xs:=[.str _,.str _]) KX G ?a ?l ?z ?v (fun H=>.cons (.str _) (.cons (.str _) .nil))
    case a|l=>k_is
    case z=>decide
    case v=>exact .cons ⟨_,rfl⟩ (.cons ⟨_,rfl⟩ .nil)
   case TJ=>
    refine' CK.aef (xs:=[.str _,.str _,.str _]) KX G ?a ?l ?z ?v (fun H=>.cons (.str _) (.cons (.str _) (.cons (.str _) .nil)))
    case a|l=>k_is
    case z=>decide
    case v=>exact .cons ⟨_,rfl⟩ (.cons ⟨_,rfl⟩ (.cons ⟨_,rfl⟩ .nil))
   case X4=>
    refine' CK.aef (xs:=[.int _,.int _,.int _]) KX G ?a ?l ?z ?v (fun H=>.cons (.int _) (.cons (.int _) (.cons (.int _) .nil)))
    case a|l=>k_is
    case z=>decide
    case v=>exact .cons ⟨_,rfl⟩ (.cons ⟨_,rfl⟩ (.cons ⟨_,rfl⟩ .nil))
   case' h=>
    unfold CK.HL
    repeat' refine bk5.2 ⟨?_,?_⟩
    all_goals first
     |exact(fun _ h=>nomatch h)
     |dsimp only[CK.hr]
   all_goals first
    |(refine' CK.a9d KX G ?a;(case a=>k_is);done)
    |(refine' CK.a9e KX G ?a;(case a=>k_is);done)
    |(refine' CK.a9a KX G ?a ?l ?c ?k (fun _ _ _ _ _ _ us hl=>CK.T3 us hl (by (repeat intro);rfl));(case a|l|c|k=>k_is);done)
 case S=>
  intro K H b a hO hask hs
  exact⟨_,a.1,_,_,rfl,hs,CK.bf6 (show axt a.1=ae from hask),fun H' p hp=>⟨p,rfl,hp⟩⟩
