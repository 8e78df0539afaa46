import PyProof.Rows.All
import Wide.All
import OpenK.AllK
import Wide.FinOn
import PyProof.EqAt
import PyProof.EqKinds
import PyProof.TupleCall
import KE.BitLaws
import Open.SpecLaws
import KE.OsHead
import KE.OsGo
import PyProof.MinMaxWalk
import PyProof.WalkInts
import PyProof.Rows.TupIn
import PyProof.Rows.SeqJoint
import PyProof.NeKinds
import PyProof.DictRoadsH
import PyProof.MeetsDictList
import PyProof.RaisesDict
import PyProof.DictList
import KE.KSortTupG
import KE.KDictSum
import PySem.Challenge.RW_leastfares_s01_answers
set_option Elab.async false
set_option linter.all false
set_option maxRecDepth 100000
set_option maxHeartbeats 4000000
open Array renaming getElem?_toList->gc,length_toList->gU,toList->S4
open BitVec renaming ofNat->QI,toNat_ofNat->jX
open Bool renaming and_assoc->yR,and_eq_false_iff->i3,and_eq_true->aU,and_eq_true_iff->ph,and_false->fw,eq_iff_iff->bC,false_and->pb,false_eq_true->bM,false_ne_true->aI,false_or->re,noConfusion->cz,not_eq_false->lG,not_eq_false'->ie,not_eq_true'->eW,or_eq_true->wY,or_false->rc,true_and->eC,true_or->TW
open Classical renaming em->MU
open False renaming elim->de
open ForInStep renaming yield->lL
open Int renaming add_comm->tX,fdiv_eq_ediv_of_nonneg->Av,le_refl->wX,one_mul->Yp,toNat_natCast->Nl,zero_add->oi
open List renaming Nodup->Yo,all_append->ic,all_cons->gb,all_eq_false->iA,all_eq_true->bP,all_map->mW,any_cons->AD,any_eq_true->gL,append_assoc->cp,append_nil->dc,cons_append->Nk,contains_iff_mem->eL,dropLast_concat_getLast->jz,drop_eq_getElem_cons->gS,drop_eq_nil_of_le->iz,drop_length->Nj,eq_nil_iff_forall_not_mem->dJ,eq_nil_of_length_eq_zero->bR,eraseIdx_cons_succ->Dj,ext_getElem?->MT,filterMap_append->gg,filterMap_cons->cW,filterMap_map->Jp,filter_append->cD,filter_congr->iy,filter_cons->br,filter_cons_of_neg->Di,filter_cons_of_pos->Dh,filter_eq_self->jU,filter_map->ib,filter_sublist->qc,find?_cons->ia,find?_cons_of_neg->iw,find?_cons_of_pos->mV,find?_eq_none->dI,find?_some->fY,flatMap_append->cc,flatMap_cons->bB,flatMap_map->ux,flatMap_nil->uw,flatten_cons->lF,foldl->Jo,foldl_append->MS,foldl_cons->oh,forIn_nil->QH,getD_eq_getElem?_getD->bh,getElem?_append_left->bV,getElem?_append_right->cy,getElem?_cons_succ->Dg,getElem?_cons_zero->Df,getElem?_drop->rq,getElem?_eq_getElem->ao,getElem?_eq_none->E8,getElem?_eq_none_iff->kI,getElem?_eq_some_iff->aJ,getElem?_inj->sY,getElem?_map->bp,getElem?_of_mem->gG,getElem?_range->g5,getElem?_set_ne->o8,getElem?_set_self->mU,getElem?_zip_eq_some->cf,getElem_mem->uv,length->wG,length_append->aK,length_cons->aS,length_drop->mJ,length_eq_zero_iff->bq,length_filter_le->aO,length_filter_lt_length_iff_exists->gu,length_map->ab,length_nil->dA,length_pos_iff->jT,length_range->bZ,length_set->wW,length_singleton->gd,length_take->bc,length_zip->dX,lookup->fO,lookup_cons->fu,map_append->aP,map_congr_left->bO,map_cons->bb,map_drop->S3,map_eq_nil_iff->qb,map_flatMap->uu,map_fst_zip->ut,map_id->GT,map_map->bi,map_nil->gK,map_take->S1,mem_append->bF,mem_append_left->cR,mem_append_right->cH,mem_cons->aB,mem_cons_of_mem->aE,mem_cons_self->aN,mem_filter->au,mem_filterMap->bU,mem_flatMap->aW,mem_iff_getElem?->dE,mem_map->aj,mem_of_find?_eq_some->cV,mem_of_getElem?->aH,mem_of_mem_take->GS,mem_range->bE,mem_singleton->aR,mergeSort_perm->Je,nil_append->wV,nodup_append->gr,nodup_cons->bj,nodup_nil->eI,nodup_range->ur,not_mem_nil->gJ,of_mem_zip->wU,pairwise_cons->dg,pairwise_map->dw,pairwise_mergeSort->De,perm_append_comm->oR,perm_middle->i6,range->bv,range_succ->dW,replicate->cQ,replicate_succ->gZ,size_toArray->be,sum_append->Pr,sum_cons->fe,take_append_drop->oQ,take_length->bo,take_of_length_le->ck,zip_cons_cons->rp
open List.Pairwise renaming filter->W7,nil->W6
open List.Perm renaming cons->mR,map->Jq,of_eq->i0,refl->mP,swap->tW,trans->iZ
open List.Sublist renaming map->Yn
open List.cons renaming inj->fK,injEq->eJ
open Nat renaming add_le_add_left->Jn,add_zero->oe,and_le_right->Pq,eq_of_testBit_eq->js,exists_testBit_of_ne_zero->wR,ge_two_pow_of_testBit->AC,le_add_right->dN,le_of_eq->tV,le_of_lt->j1,le_of_succ_le->lK,le_refl->ay,le_succ->lJ,le_trans->aV,lt_irrefl->dO,lt_of_le_of_lt->cu,lt_of_lt_of_le->bu,lt_succ_of_lt->lI,lt_succ_self->fH,lt_trans->n8,lt_two_pow_self->rb,min_le_left->oP,min_le_right->dj,min_self->tU,mod_eq_of_lt->jd,mul_le_mul_right->Jd,ne_of_gt->gR,ne_of_lt->bH,not_lt_zero->dZ,one_le_two_pow->MR,pow_le_pow_right->dS,pow_lt_pow_right->jr,pow_succ->W5,sub_add_cancel->MQ,sub_self->tT,succ_mul->tS,succ_ne_self->wF,testBit_and->xB,testBit_or->Au,testBit_two_pow_sub_one->yP,testBit_xor->xA,two_pow_pos->eV,zero_le->bw,zero_or->Ym,zero_testBit->jc
open Nat.succ renaming inj->yQ
open Ne renaming symm->fc
open Option renaming getD_none->Jm,isNone_none->GR,isSome_iff_exists->yO,isSome_map->rn,isSome_some->hU,map_eq_some_iff->AB,map_none->MP,map_some->cY,none->SZ,none_or->Ni
open Option.some renaming inj->bx,injEq->fJ
open Or renaming inl->Nh,inr->GQ
open Prod.mk renaming inj->gq,injEq->gQ
open PyFlat renaming call->Dz,calls->mI,played->iY,row->TV,rows->Dy,told->i5
open PyProof.Rows renaming Call_->Yl,boot_all->wD,boot_list->uq,boot_max->Yk,boot_min->hZ,boot_sorted->jy,boot_sum->hX,callWith_builtin1->Yj,callWith_type1->cX,lexLt->mT,lt_int->Yi
open PyProof renaming noPylong_small->Ar
open PySem renaming Around->af3,BindsTo->agM,Builtin->agg,DictEntry->agS,Expr->af0,FuncData->agd,Heap->afV,IsEnum->agl,IsRangeIter->ag6,Keyword->agk,NameKind->agf,Params->agt,Program->afZ,PyData->ago,Scope->af8,Shared->afU,Stmt->af6,Within->Dd,World->afW,argBest->agc,argsOk->ags,assignEach->agw,atKey->agi,attributeBase->agn,backTo->af9,backToKw->agx,behindInMarks->agr,binaryOp->agj,bootBuiltins->agK,boot_len->xz,cLine->af7,call->WW,callWith->ag0,call_meets->agY,call_meetsIn->agQ,callerA->agU,cellsFrom->aga,checkBuiltinCall->ahh,codeAny_builtin->agI,codeAny_call_builtin->ahg,codeAny_mono->agF,compEnvC->agh,compareOp->age,evalArgs_none->pX,foldedSetIterable->ag7,getItem->agN,hashInt->agB,holding->agL,keywordEach->agy,letOwnedTupleGo->ag5,mainGlobals->af4,mem_of_lookup->bN,model->afY,notedBy->agO,plainId_quiet->agA,pushCells->agz,pushCells_keeps->aha,pyNext->agm,richCompare->agW,sizeLine_eq->af5,size_of_entries->ahe,sliceBounds->agH,starEach->af1,subscripted->ag9,swapsWith->agv,sysModules->agb,tupleKind->agC,tupleKind_room_in1->agP,typeIs_int->agX,valueAt->agq,wpAny_Call_Name_kw->agG,wpAny_Call_method->agR,wpAny_bind->afX,wpAny_call->ag8,wpAny_callSpecial?_slot->ahj,wpAny_call_entry->ahk,wpAny_dictEntries->ahi,wpAny_execs_nil->ag4,wpAny_field->agT,wpAny_holding->agp,wpAny_letGo->agJ,wpAny_letOwnedTupleGo_enum->ahl,wpAny_missedRemoval_other->ahm,wpAny_newObj_type->agZ,wpAny_of_eq->ahd,wpAny_passesOwn->agD,wpAny_pure->af2,wpAny_pyIter_enum->ahb,wpAny_pyIter_list->agE,wpAny_rule->ag2,wpAny_seqItems->ahc,wpAny_setField_rec->ag3,wpAny_standAt->agV,wpAny_truthy_bool->agu,wpAny_tryCatch->ag1,wpAny_updateSeq->ahf
open PySem.Challenge renaming pw_leastfares_s01_answers->SY
open PySem.EqMixed renaming eq_bool_str->W4,eq_int_str->W3,eq_str_bool->W2,eq_str_int->W1,ne_bool_str->W0,ne_int_str->WZ,ne_str_bool->WY,ne_str_int->WX
open PySem.EqNone renaming eq_bool_none->Yh,eq_int_none->Yg,eq_none_bool->Yf,eq_none_int->Ye,eq_none_none->Yd,eq_none_str->Yc,eq_str_none->Yb,ne_bool_none->Ya,ne_int_none->X9,ne_none_bool->X8,ne_none_int->X7,ne_none_none->X6,ne_none_str->X5,ne_str_none->X4
open PySem.F renaming args_dict_get_3->yN,args_dict_pop_3->lE,entry_dict_get->Aq,entry_dict_pop->mi,entry_min->ra,entry_min_loop->io,kind_min->sr,plainAttrs_dict->g9,plainAttrs_list->lD,plain_min->q5,plain_min_loop->ci,slot_dict_get->mO,slot_dict_getitem->wQ,slot_dict_pop->eG,type_dict_pop->mN
open PySem.W renaming Frag->aa,WRecords->Jc,WalkOS->MO,callWith_K->pY,cellsFrom_some->Ap,codeIn->jS,emptyDict->du,findIn->eB,fnOf->eT,handedIn->Jb,hasDictIn->kb,instObj->eN,isFn->Pp,keepIn->eA,length_le_weightAllW->tR,lookIn->wC,makesIn->tP,methodObj->qZ,mg_of->bD,nsIn->bL,plainGet->lC,plainOver->qY,takerIn->tO
open PySem.Within renaming cons->X3
open Sum renaming inl->az,inr->tN
open Sum.inl renaming inj->cU,injEq->kH
open True renaming intro->eZ
open Vbahaf renaming Comp->cw,Fare->aq,Journey->ai,Seg->bT,Span->cP,State->ag,cut->mH,dayIn->rm,fareNumbers->jW,keyIn->mG,kindIn->pW,pairsSorted->GP,pay->TU,rows->Dx,segIn->jx,segsOf->yM,single->Po,start->d6,stepRows->jh,threes->pV,within->cA
open VbahafNeutral renaming asked->wO,asked1->fN,row->nZ,start->WV,step->eX
namespace Lf
open Vbahaf
abbrev Un:=Span×Option Span
def i9 (c:Span) (i:Nat):Bool:=decide (c.1<=i)&&decide (i<c.2)
def mM (u:Un) (i:Nat):Bool:=i9 u.1 i||(match u.2 with
 |some q=>i9 q i
 |none=>false)
def IV (u:Un):Prop:=u.1.1<u.1.2/\∀q,u.2=some q->u.1.2<=q.1/\q.1<q.2
def Uu (u:Un):List Span:=match u.2 with
 |some q=> [u.1,q]
 |none=> [u.1]
def Tiled:(Nat->Bool)->List Un->Prop
 |M,[]=> ∀i,M i=false
 |M,u::l=>IV u/\(∀i,i<u.1.1->M i=false)/\(∀i,mM u i=true->M i=true)/\Tiled (λi=>M i&&!mM u i) l
def ly:(Nat->Bool)->List Span->Prop
 |M,[]=> ∀i,M i=false
 |M,c::r=>c.1<c.2/\(∀i,i<c.1->M i=false)/\(∀i,i9 c i=true->M i=true)/\ly (λi=>M i&&!i9 c i) r
inductive iW:List Span->List Un->Prop
 |nil:iW [] []
 |one {x r l}:iW r l->iW (x::r) ((x,none)::l)
 |two {x r y r' l}:(y,r')∈picks r->iW r' l->iW (x::r) ((x,some y)::l)
theorem cS {c:Span} {i:Nat}:i9 c i=true↔c.1<=i/\i<c.2:=by
 unfold i9;simp
theorem gp {c:Span} {i:Nat}:i9 c i=false↔¬(c.1<=i/\i<c.2):=by
 rw [<-cS];simp
theorem sw3 (a b c:Bool):((a&&!b)&&!c)=((a&&!c)&&!b):=by cases a<;>cases b<;>cases c<;>rfl
theorem or3 (a b c:Bool):(a&&!(b||c))=((a&&!b)&&!c):=by cases a<;>cases b<;>cases c<;>rfl
theorem ly.congr: ∀{cs:List Span} {M N:Nat->Bool},(∀i,M i=N i)->ly M cs->ly N cs
 |_,M,N,h,c=>by
  have e:M=N:=funext h;rw [<-e];exact c
theorem Tiled.congr {us:List Un} {M N:Nat->Bool} (h: ∀i,M i=N i) (c:Tiled M us):Tiled N us:=by
 have e:M=N:=funext h;rw [<-e];exact c
theorem ly.mem: ∀{cs:List Span} {M:Nat->Bool},ly M cs->∀c∈cs,c.1<c.2/\∀i,i9 c i=true->M i=true
 | [],_,_,c,h=>by cases h
 |d::r,M,⟨h1,_,h3,h4⟩,c,h=>by
  rcases aB.mp h with rfl|h
  ·exact ⟨h1,h3⟩
  ·obtain ⟨g1,g2⟩:=ly.mem h4 c h;refine ⟨g1,λi hi=>?_⟩;have:=g2 i hi;simp only [aU] at this;exact this.1
theorem ly.zM {c:Span} {r:List Span} {M:Nat->Bool} (h:ly M (c::r)): ∀d∈r,c.2<=d.1:=by
 intro d hd;obtain ⟨h1,h2,h3,h4⟩:=h;obtain ⟨g1,g2⟩:=h4.mem d hd;have:=g2 d.1 (cS.mpr ⟨ay _,g1⟩);simp only [aU,eW] at this;obtain ⟨a,b⟩:=this;rw [gp] at b;have: ¬d.1<c.1:=λz=>by rw [h2 d.1 z] at a;cases a
 omega
theorem ly.sorted: ∀{cs:List Span} {M:Nat->Bool},ly M cs->cs.Pairwise (λa b=>a.1<b.1)
 | [],_,_=> .nil
 |c::r,M,h=>by
  refine dg.mpr ⟨λd hd=>?_,ly.sorted h.2.2.2⟩;have:=h.zM d hd;have:=h.1;omega
theorem ly.pick: ∀{r r':List Span} {y:Span} {M:Nat->Bool},ly M r->(y,r')∈picks r->ly (λi=>M i&&!i9 y i) r':=by
 intro r;induction r with
 |nil=>intro r' y M _ h;cases h
 |cons c r ih=>
  intro r' y M h hp;unfold picks at hp;rcases aB.mp hp with e|hp
  ·cases e;exact h.2.2.2
  ·obtain ⟨⟨z,t⟩,hz,e⟩:=aj.mp hp;cases e;have hy: ∀{z t} {r:List Span},(z,t)∈picks r->z∈r:=by
    intro z t r;induction r generalizing z t with
    |nil=>intro h;cases h
    |cons a r Zq=>
     intro h;unfold picks at h;rcases aB.mp h with e|h
     ·cases e;exact aN
     ·obtain ⟨⟨z',t'⟩,Xn,e⟩:=aj.mp h;cases e;exact aE _ (Zq Xn)
   have KY:=hy hz;have i4:=h.zM _ KY;obtain ⟨h1,h2,h3,h4⟩:=h;refine ⟨h1,λi hi=>by show (M i&&_)=false;rw [h2 i hi];rfl,λi hi=>?_,?_⟩
   ·show (M i&&!i9 z i)=true;rw [h3 i hi,eC];rw [cS] at hi;simp only [eW,gp];omega
   ·exact ly.congr (λi=>sw3 _ _ _) (ih h4 hz)
theorem kW {α:Type}: ∀{r:List α} {z:α} {t:List α},(z,t)∈picks r->z∈r/\(z::t).Perm r
 | [],_,_,h=>by cases h
 |a::r,z,t,h=>by
  unfold picks at h;rcases aB.mp h with e|h
  ·cases e;exact ⟨aN, .refl _⟩
  ·obtain ⟨⟨z',t'⟩,Xn,e⟩:=aj.mp h;cases e;obtain ⟨m,p⟩:=kW Xn;exact ⟨aE _ m,(tW _ _ _).trans (p.cons _)⟩
theorem iW.T6: ∀{cs:List Span} {us:List Un},iW cs us->∀{M:Nat->Bool},ly M cs->Tiled M us:=by
 intro cs us h;induction h with
 |nil=>intro M c;exact c
 | @one x r l _ ih=>
  intro M c;refine ⟨⟨c.1,λq hq=>by cases hq⟩,c.2.1,λi hi=>c.2.2.1 i (by unfold mM at hi;simpa using hi),?_⟩;exact (ih c.2.2.2).congr λi=>by simp [mM]
 | @two x r y r' l hp _ ih=>
  intro M c;obtain ⟨hm,_⟩:=kW hp;have i4:=c.zM y hm;obtain ⟨g1,g2⟩:=c.2.2.2.mem y hm;refine ⟨⟨c.1,λq hq=>by cases hq;exact ⟨i4,g1⟩⟩,c.2.1,λi hi=>?_,?_⟩
  ·unfold mM at hi;simp only [wY] at hi;rcases hi with hi|hi
   ·exact c.2.2.1 i hi
   ·have:=g2 i hi;simp only [aU] at this;exact this.1
  ·refine (ih (c.2.2.2.pick hp)).congr λi=>?_;exact (or3 _ _ _).symm
theorem ly.put: ∀{r':List Span} {y:Span} {M:Nat->Bool},ly (λi=>M i&&!i9 y i) r'->y.1<y.2->(∀i,i9 y i=true->M i=true)->
  ∃r,(y,r')∈picks r/\ly M r:=by
 intro r';induction r' with
 |nil=>
  intro y M h hy hM;refine ⟨[y],by unfold picks;exact aN,hy,λi hi=>?_,hM,h⟩;have e:=h i;simp only [i3,ie] at e;rcases e with e|e
  ·exact e
  ·rw [cS] at e;omega
 |cons c r ih=>
  intro y M h hy hM;obtain ⟨h1,h2,h3,h4⟩:=h;have hMc: ∀i,i9 c i=true->M i=true/\i9 y i=false:=λi hi=>by
   have:=h3 i hi;simpa using this
  by_cases hc:y.1<c.1
  ·refine ⟨y::c::r,by unfold picks;exact aN,hy,λi hi=>?_,hM,h1,h2,h3,h4⟩;have e:=h2 i (by omega);simp only [i3,ie] at e;rcases e with e|e
   ·exact e
   ·rw [cS] at e;omega
  ·have fZ:c.2<=y.1:=by
    have:=(hMc c.1 (cS.mpr ⟨ay _,h1⟩)).2;rw [gp] at this;have z: ¬(c.1<=y.1/\y.1<c.2):=λz=>by
     have:=(hMc y.1 (cS.mpr z)).2;rw [gp] at this;omega
    omega
   obtain ⟨t,ht,aaj⟩:=ih (y:=y) (M:=λi=>M i&&!i9 c i) (ly.congr (λi=>sw3 _ _ _) h4) hy (λi hi=>by
      show (M i&&!i9 c i)=true;rw [hM i hi,eC];rw [cS] at hi;simp only [eW,gp];omega)
   refine ⟨c::t,?_,h1,λi hi=>?_,λi hi=>(hMc i hi).1,aaj⟩
   ·unfold picks;exact aE _ (aj.mpr ⟨(y,r),ht,rfl⟩)
   ·have e:=h2 i hi;simp only [i3,ie] at e;rcases e with e|e
    ·exact e
    ·rw [cS] at e;omega
theorem ly.front {r:List Span} {x:Span} {M:Nat->Bool} (h:ly (λi=>M i&&!i9 x i) r) (hx:x.1<x.2) (h0: ∀i,i<x.1->M i=false) (hM: ∀i,i9 x i=true->M i=true):ly M (x::r):=
 ⟨hx,h0,hM,h⟩
theorem Tiled.Bw: ∀{us:List Un} {M:Nat->Bool},Tiled M us->∃cs,ly M cs/\iW cs us
 | [],M,h=>⟨[],h, .nil⟩
 |(x,none)::l,M,⟨h1,h2,h3,h4⟩=>by
  obtain ⟨cs,c,p⟩:=Tiled.Bw h4;refine ⟨x::cs,ly.front (ly.congr (λi=>by simp [mM]) c) h1.1 h2 (λi hi=>h3 i (by unfold mM;simp [hi])), .one p⟩
 |(x,some y)::l,M,⟨h1,h2,h3,h4⟩=>by
  obtain ⟨cs,c,p⟩:=Tiled.Bw h4;obtain ⟨k1,k2⟩:=h1.2 y rfl;obtain ⟨r,hr,hc⟩:=ly.put (M:=λi=>M i&&!i9 x i) (y:=y) (r':=cs) (ly.congr (λi=>or3 _ _ _) c) k2 (λi hi=>by
    show (M i&&!i9 x i)=true;rw [h3 i (by unfold mM;simp [hi]),eC];rw [cS] at hi;simp only [eW,gp];have k1':x.2<=y.1:=k1;omega)
  exact ⟨x::r,ly.front hc h1.1 h2 (λi hi=>h3 i (by unfold mM;simp [hi])), .two hr p⟩
def JK (us:List Un):List Span:=us.flatMap Uu
theorem iW.perm {cs:List Span} {us:List Un} (h:iW cs us):(JK us).Perm cs:=by
 induction h with
 |nil=>exact .refl _
 |one _ ih=>exact ih.cons _
 |two hp _ ih=>exact ((ih.cons _).trans (kW hp).2).cons _
theorem w8: ∀{a b:List Span},a.Perm b->a.Pairwise (λx y=>x.1<y.1)->b.Pairwise (λx y=>x.1<y.1)->a=b
 |a,b,p,ha,hb=>p.eq_of_pairwise (le:=λx y:Span=>x.1<y.1) (λx y _ _ h1 h2=>absurd h1 (by omega)) ha hb
theorem iW.unique {M N:Nat->Bool} {cs ds:List Span} {us:List Un} (h:iW cs us) (k:iW ds us) (hc:ly M cs) (hd:ly N ds):cs=ds:=
 w8 (h.perm.symm.trans k.perm) hc.sorted hd.sorted
end Lf
namespace Lf
open Vbahaf
def zl (i n:Nat):Nat->Bool:=λx=>decide (i<=x)&&decide (x<n)
theorem jn {i n x:Nat}:zl i n x=true↔i<=x/\x<n:=by unfold zl;simp
theorem kT {i n x:Nat}:zl i n x=false↔¬(i<=x/\x<n):=by rw [<-jn];simp
theorem zk {i e n x:Nat} (h:i<e) (_h2:e<=n):(zl i n x&&!i9 (i,e) x)=zl e n x:=by
 rw [bC];simp only [aU,eW,jn,gp];omega
theorem eO {n:Nat}: ∀{k i:Nat} {cs:List Span},n-i<k->(cs∈cuttings n k i↔ly (zl i n) cs)
 |0,i,cs,h=>absurd h (dZ _)
 |k+1,i,cs,h=>by
  unfold cuttings;by_cases hn:n<=i
  ·rw [if_pos hn];constructor
   ·intro m;obtain rfl:=aR.mp m;intro x;rw [kT];omega
   ·intro c;cases cs with
    |nil=>exact aR.mpr rfl
    |cons c' r=>
     have:=c.2.2.1 c'.1 (cS.mpr ⟨ay _,c.1⟩);rw [jn] at this;omega
  ·rw [if_neg hn];constructor
   ·intro m;obtain ⟨e,he,m⟩:=aW.mp m;obtain ⟨XC,R3⟩:=au.mp he;obtain ⟨l,hl,rfl⟩:=aj.mp m;have h1:e<n+1:=bE.mp XC;have h2:i<e:=by simpa using R3
    have:=(eO (k:=k) (i:=e) (cs:=l) (by omega)).mp hl;refine ⟨h2,λx hx=>by rw [kT];simp only at hx;omega,λx hx=>?_,ly.congr (λx=>(zk h2 (by omega)).symm) this⟩;rw [cS] at hx;rw [jn];simp only at hx;omega
   ·intro c;cases cs with
    |nil=>
     have:=c i;rw [kT] at this;omega
    |cons c' r=>
     obtain ⟨b,e⟩:=c';obtain ⟨h1,h2,h3,h4⟩:=c;simp only at h1 h2;have hb:b=i:=by
      have a1:=h3 b (cS.mpr ⟨ay _,h1⟩);rw [jn] at a1;have: ¬i<b:=λz=>by
       have:=h2 i z;rw [kT] at this;omega
      omega
     subst hb;have he:e<=n:=by
      have a1:=h3 (e-1) (cS.mpr ⟨by simp only;omega,by simp only;omega⟩);rw [jn] at a1;omega
     refine aW.mpr ⟨e,au.mpr ⟨bE.mpr (by omega),by simpa using h1⟩,aj.mpr ⟨r,?_,rfl⟩⟩;exact (eO (k:=k) (i:=e) (cs:=r) (by omega)).mpr (ly.congr (λx=>zk h1 he) h4)
theorem gM {α β:Type} {f:α->List β}: ∀{l:List α},l.Nodup->(∀a∈l,(f a).Nodup)->(∀a∈l, ∀b∈l, ∀x,x∈f a->x∈f b->a=b)->(l.flatMap f).Nodup
 | [],_,_,_=>by simp
 |a::l,h,h1,h2=>by
  rw [bB];obtain ⟨ha,hl⟩:=bj.mp h;refine gr.mpr ⟨h1 a aN,gM hl (λb hb=>h1 b (aE _ hb)) (λb hb c hc=>h2 b (aE _ hb) c (aE _ hc)),λx hx y hy e=>?_⟩;subst e;obtain ⟨b,hb,hxb⟩:=aW.mp hy;exact ha (h2 a aN b (aE _ hb) x hx hxb▸hb)
theorem ju {α β:Type} {f:α->β} (hf: ∀a b,f a=f b->a=b): ∀{l:List α},l.Nodup->(l.map f).Nodup
 | [],_=>by simp
 |a::l,h=>by
  obtain ⟨ha,hl⟩:=bj.mp h;rw [bb];refine bj.mpr ⟨λm=>?_,ju hf hl⟩;obtain ⟨b,hb,e⟩:=aj.mp m;exact ha (hf b a e▸hb)
theorem nh (n:Nat): ∀(k i:Nat),(cuttings n k i).Nodup
 |0,i=>by unfold cuttings;simp
 |k+1,i=>by
  unfold cuttings;by_cases hn:n<=i
  ·rw [if_pos hn];simp
  ·rw [if_neg hn];refine gM (ur.filter _) (λe _=>ju (λa b h=>(fK h).2) (nh n k e)) (λa _ b _ x hx hy=>?_);obtain ⟨l,_,rfl⟩:=aj.mp hx;obtain ⟨l',_,e⟩:=aj.mp hy;have:=(fK e).1;injection this with _ h2;exact h2.symm
theorem xT {α:Type}: ∀{r:List α} {z:α} {t:List α},(z,t)∈picks r->t.length+1=r.length:=λh=>by
 have:=(kW h).2.length_eq;simpa using this
theorem dY: ∀{k:Nat} {cs:List Span} {us:List Un},cs.length<=k->(us∈pairings k cs↔iW cs us)
 |0,cs,us,h=>by
  have e:cs= []:=bq.mp (Nat.le_zero.mp h);subst e;unfold pairings;constructor
  ·intro m;obtain rfl:=aR.mp m;exact .nil
  ·intro p;cases p;exact aR.mpr rfl
 |k+1,[],us,h=>by
  unfold pairings;constructor
  ·intro m;obtain rfl:=aR.mp m;exact .nil
  ·intro p;cases p;exact aR.mpr rfl
 |k+1,x::r,us,h=>by
  unfold pairings;have hr:r.length<=k:=by simpa using h
  constructor
  ·intro m;rcases bF.mp m with m|m
   ·obtain ⟨l,hl,rfl⟩:=aj.mp m;exact .one ((dY hr).mp hl)
   ·obtain ⟨⟨y,t⟩,hy,m⟩:=aW.mp m;obtain ⟨l,hl,rfl⟩:=aj.mp m;have:=xT hy;exact .two hy ((dY (show t.length<=k by omega)).mp hl)
  ·intro p;cases p with
   |one p=>exact cR _ (aj.mpr ⟨_,(dY hr).mpr p,rfl⟩)
   |two hy p=>
    have:=xT hy;exact cH _ (aW.mpr ⟨_,hy,aj.mpr ⟨_,(dY (by dsimp only;omega)).mpr p,rfl⟩⟩)
theorem xU {α:Type}: ∀(r:List α),(picks r).map (·.1)=r
 | []=>rfl
 |x::r=>by
  unfold picks;rw [bb,bi];show x::(picks r).map (λy=>y.1)=x::r;rw [xU r]
theorem ij {α β:Type} {f:α->β}: ∀{l:List α},(l.map f).Nodup->l.Nodup
 | [],_=>by simp
 |a::l,h=>by
  rw [bb] at h;obtain ⟨ha,hl⟩:=bj.mp h;exact bj.mpr ⟨λm=>ha (aj.mpr ⟨a,m,rfl⟩),ij hl⟩
theorem iE {α β:Type} {f:α->β}: ∀{l:List α},(l.map f).Nodup->∀a∈l, ∀b∈l,f a=f b->a=b
 | [],_,a,ha,_,_,_=>by cases ha
 |c::l,h,a,ha,b,hb,e=>by
  rw [bb] at h;obtain ⟨hc,hl⟩:=bj.mp h;rcases aB.mp ha with Wb|Wb<;>rcases aB.mp hb with Dr|Dr
  ·rw [Wb,Dr]
  ·exact (hc (aj.mpr ⟨b,Dr,by rw [<-e,Wb]⟩)).elim
  ·exact (hc (aj.mpr ⟨a,Wb,by rw [e,Dr]⟩)).elim
  ·exact iE hl a Wb b Dr e
theorem jG: ∀(k:Nat) (cs:List Span),cs.Nodup->(pairings k cs).Nodup
 |0,cs,_=>by unfold pairings;simp
 |k+1,[],_=>by unfold pairings;simp
 |k+1,x::r,h=>by
  unfold pairings;obtain ⟨hx,hr⟩:=bj.mp h;have hp:((picks r).map (·.1)).Nodup:=by rw [xU];exact hr
  refine gr.mpr ⟨ju (λa b h=>(fK h).2) (jG k r hr),?_,λa ha b hb e=>?_⟩
  ·refine gM (ij hp) (λy hy=>ju (λa b h=>(fK h).2) (jG k y.2 ?_)) (λa ha b hb z hz hw=>?_)
   ·have:=(kW (z:=y.1) (t:=y.2) hy).2.nodup_iff.mpr hr;exact (bj.mp this).2
   ·obtain ⟨l,_,rfl⟩:=aj.mp hz;obtain ⟨l',_,e⟩:=aj.mp hw;have e1:=(fK e).1;injection e1 with _ e2;injection e2 with e3;exact iE hp a ha b hb e3.symm
  ·subst e;obtain ⟨l,_,rfl⟩:=aj.mp ha;obtain ⟨y,_,hb⟩:=aW.mp hb;obtain ⟨l',_,e⟩:=aj.mp hb;have e1:=(fK e).1;injection e1 with _ e2;cases e2
theorem yq {M:Nat->Bool} {cs:List Span} (h:ly M cs):cs.Nodup:=
 h.sorted.imp (λ{a b} h e=>by subst e;omega)
theorem oK: ∀{cs:List Span} {i n:Nat},ly (zl i n) cs->cs.length<=n-i
 | [],_,_,_=>bw _
 |c::r,i,n,h=>by
  obtain ⟨b,e⟩:=c;obtain ⟨h1,h2,h3,h4⟩:=h;simp only at h1 h2;have a1:=h3 b (cS.mpr ⟨ay _,h1⟩);rw [jn] at a1;have a2:=h3 (e-1) (cS.mpr ⟨by simp only;omega,by simp only;omega⟩);rw [jn] at a2;have hb:b=i:=by
   have: ¬i<b:=λz=>by
    have:=h2 i z;rw [kT] at this;omega
   omega
  subst hb;have:=oK (ly.congr (λx=>zk h1 (by omega)) h4);simp only [aS];omega
def tj (n:Nat):List (List Un):=(cuttings n 9 0).flatMap λcs=>pairings 9 cs
theorem qC {n:Nat} (h:n<=8) {us:List Un}:us∈tj n↔Tiled (zl 0 n) us:=by
 unfold tj;constructor
 ·intro m;obtain ⟨cs,hc,hp⟩:=aW.mp m;have c:=(eO (by omega)).mp hc;have:=oK c;exact ((dY (by omega)).mp hp).T6 c
 ·intro t;obtain ⟨cs,c,p⟩:=t.Bw;have:=oK c;exact aW.mpr ⟨cs,(eO (by omega)).mpr c,(dY (by omega)).mpr p⟩
theorem Ed {n:Nat} (h:n<=8):(tj n).Nodup:=by
 unfold tj;refine gM (nh n 9 0) (λcs hc=>jG 9 cs (yq ((eO (by omega)).mp hc))) (λa ha b hb x hx hy=>?_);have ca:=(eO (by omega)).mp ha;have cb:=(eO (by omega)).mp hb;have la:=oK ca;have lb:=oK cb;exact ((dY (by omega)).mp hx).unique ((dY (by omega)).mp hy) ca cb
theorem Bs {α:Type} [DecidableEq α] {a b:List α} (ha:a.Nodup) (hb:b.Nodup) (h: ∀x,x∈a↔x∈b):a.Perm b:=by
 rw [List.perm_iff_count];intro x;rw [ha.count,hb.count];simp only [h]
end Lf
namespace Lf
open Vbahaf
theorem ka {c m:Nat}:c&&&m=c↔∀x,c.testBit x=true->m.testBit x=true:=by
 constructor
 ·intro h x hx;have:(c&&&m).testBit x=c.testBit x:=by rw [h]
  rw [xB,hx,eC] at this;exact this
 ·intro h;apply js;intro x;rw [xB];cases e:c.testBit x with
  |false=>rfl
  |true=>rw [h x e];rfl
theorem Cw {d c:Nat} (h:d&&&c=0):d+c=d|||c:=by
 have hd:d<2^(d+c):=bu rb (dS (by decide) (dN _ _));have hc:c<2^(d+c):=bu rb (dS (by decide) (Nat.le_add_left _ _));have XE:d<2^(d+c+1):=n8 hd (jr (by decide) (fH _));have hc1:c<2^(d+c+1):=n8 hc (jr (by decide) (fH _));have e:=BitVec.add_eq_or_of_and_eq_zero (QI (d+c+1) d) (QI (d+c+1) c) (by
  apply BitVec.eq_of_toNat_eq;rw [BitVec.toNat_and,jX,jX,jd XE,jd hc1,h];simp)
 have e2:=congrArg BitVec.toNat e;rw [BitVec.toNat_add,BitVec.toNat_or,jX,jX,jd XE,jd hc1,jd] at e2
 ·exact e2
 ·rw [W5];omega
theorem sx {m c:Nat} (h:c&&&m=c) (x:Nat):(m-c).testBit x=(m.testBit x&&!c.testBit x):=by
 have hs:=ka.mp h;have e:(m^^^c)+c=m:=by
  rw [Cw]
  ·apply js;intro i;rw [Au,xA];cases e:c.testBit i with
   |false=>simp
   |true=>rw [hs i e];rfl
  ·apply js;intro i;rw [xB,xA,jc];cases e:c.testBit i with
   |false=>simp
   |true=>rw [hs i e];rfl
 have e2:m-c=m^^^c:=by omega
 rw [e2,xA];cases e:c.testBit x with
 |false=>simp
 |true=>rw [hs x e];rfl
theorem tZ {m c:Nat} (h:c&&&m=c) (h0:c≠0):m-c<m:=by
 have:c<=m:=by rw [<-h];exact Pq
 omega
theorem zQ (n x:Nat):(2^n-1).testBit x=zl 0 n x:=by
 rw [yP];unfold zl;simp
def CW (m i:Nat):Prop:=m.testBit i=true/\∀j,j<i->m.testBit j=false
theorem CW.unique {m i j:Nat} (h:CW m i) (k:CW m j):i=j:=by
 rcases Nat.lt_trichotomy i j with z|z|z
 ·have:=h.1;rw [k.2 i z] at this;cases this
 ·exact z
 ·have:=k.1;rw [h.2 j z] at this;cases this
def qE (m:Nat):Nat->Nat->Nat
 |0,i=>i
 |k+1,i=>if m.testBit i=true then i else qE m k (i+1)
def low (m:Nat):Nat:=qE m m 0
theorem qD {m:Nat}: ∀{k i:Nat},(∀j,j<i->m.testBit j=false)->(∃x,x<=i+k/\m.testBit x=true)->CW m (qE m k i)
 |0,i,h,⟨x,hx,ht⟩=>by
  unfold qE;have: ¬x<i:=λz=>by rw [h x z] at ht;cases ht
  have e:x=i:=by omega
  subst e;exact ⟨ht,h⟩
 |k+1,i,h,⟨x,hx,ht⟩=>by
  unfold qE;by_cases hi:m.testBit i=true
  ·rw [if_pos hi];exact ⟨hi,h⟩
  ·rw [if_neg hi];refine qD (λj hj=>?_) ⟨x,by omega,ht⟩;by_cases e:j=i
   ·subst e;simpa using hi
   ·exact h j (by omega)
theorem ni {m:Nat} (h:m≠0):CW m (low m):=by
 obtain ⟨x,hx⟩:=wR h;refine qD (λj hj=>absurd hj (dZ _)) ⟨x,?_,hx⟩;have:2^x<=m:=AC hx;have:x<2^x:=rb;omega
structure sn (ch:Nat->List Un) (cv:Un->Nat):Prop where
 fst: ∀i u,u∈ch i->u.1.1=i
 ok: ∀i u,u∈ch i->IV u
 cv: ∀i u,u∈ch i->∀x,(cv u).testBit x=mM u x
 nd: ∀i,(ch i).Nodup
theorem pQ {u:Un} (h:IV u):mM u u.1.1=true:=by
 unfold mM;rw [cS.mpr ⟨ay _,h.1⟩];rfl
theorem sn.ne {ch:Nat->List Un} {cv:Un->Nat} (C:sn ch cv) {i:Nat} {u:Un} (h:u∈ch i):cv u≠0:=λe=>by
 have:=C.cv i u h u.1.1;rw [pQ (C.ok i u h),e,jc] at this;cases this
def kL (ch:Nat->List Un) (cv:Un->Nat):Nat->Nat->List (List Un)
 |0,_=> []
 |k+1,m=>if m=0 then [[]] else ((ch (low m)).filter λu=>decide (cv u&&&m=cv u)).flatMap λu=>(kL ch cv k (m-cv u)).map λl=>u::l
theorem rO {ch:Nat->List Un} {cv:Un->Nat} (C:sn ch cv): ∀{k m:Nat} {us:List Un},m<k->(us∈kL ch cv k m↔Tiled m.testBit us/\∀u∈us,u∈ch u.1.1)
 |0,m,us,h=>absurd h (dZ _)
 |k+1,m,us,h=>by
  unfold kL;by_cases h0:m=0
  ·subst h0;rw [if_pos rfl];constructor
   ·intro z;obtain rfl:=aR.mp z;exact ⟨λi=>jc i,λu hu=>by cases hu⟩
   ·intro ⟨z,_⟩;cases us with
    |nil=>exact aR.mpr rfl
    |cons u l=>
     have:=z.2.2.1 u.1.1 (pQ z.1);rw [jc] at this;cases this
  ·rw [if_neg h0];constructor
   ·intro z;obtain ⟨u,hu,z⟩:=aW.mp z;obtain ⟨l,hl,rfl⟩:=aj.mp z;obtain ⟨zK,HZ⟩:=au.mp hu;have hs:cv u&&&m=cv u:=by simpa using HZ
    have hc:=ka.mp hs;have i4:=tZ hs (C.ne zK);obtain ⟨t,hm⟩:=(rO C (k:=k) (m:=m-cv u) (us:=l) (by omega)).mp hl;have ef:=C.fst _ _ zK;refine ⟨⟨C.ok _ _ zK,λi hi=>(ni h0).2 i (by rw [ef] at hi;exact hi),λi hi=>hc i (by rw [C.cv _ _ zK];exact hi),t.congr λi=>by rw [sx hs,C.cv _ _ zK]⟩,λv hv=>?_⟩;rcases aB.mp hv with rfl|hv
    ·rw [ef];exact zK
    ·exact hm v hv
   ·intro ⟨t,hm⟩;cases us with
    |nil=>
     obtain ⟨x,hx⟩:=wR h0;have:=t x;rw [hx] at this;cases this
    |cons u l=>
     obtain ⟨t1,t2,t3,t4⟩:=t;have hu:=hm u aN;have OA:low m=u.1.1:=(ni h0).unique ⟨t3 _ (pQ t1),t2⟩;have hs:cv u&&&m=cv u:=ka.mpr λx hx=>t3 x (by rw [<-C.cv _ _ hu];exact hx);have i4:=tZ hs (C.ne hu);refine aW.mpr ⟨u,au.mpr ⟨by rw [OA];exact hu,by simpa using hs⟩,aj.mpr ⟨l,?_,rfl⟩⟩;exact (rO C (k:=k) (m:=m-cv u) (us:=l) (by omega)).mpr ⟨t4.congr λi=>by rw [sx hs,C.cv _ _ hu],λv hv=>hm v (aE _ hv)⟩
theorem sE {ch:Nat->List Un} {cv:Un->Nat} (C:sn ch cv): ∀(k m:Nat),(kL ch cv k m).Nodup
 |0,_=>by unfold kL;simp
 |k+1,m=>by
  unfold kL;by_cases h0:m=0
  ·rw [if_pos h0];simp
  ·rw [if_neg h0];refine gM ((C.nd _).filter _) (λu _=>ju (λa b h=>(fK h).2) (sE C k _)) (λa _ b _ x hx hy=>?_);obtain ⟨l,_,rfl⟩:=aj.mp hx;obtain ⟨l',_,e⟩:=aj.mp hy;exact (fK e).1.symm
theorem pq {ch:Nat->List Un} {cv:Un->Nat} (C:sn ch cv) {n k:Nat} (hn:n<=8) (hk:2^n<=k):
  (kL ch cv k (2^n-1)).Perm ((tj n).filter λus=>us.all λu=>decide (u∈ch u.1.1)):=by
 refine Bs (sE C _ _) ((Ed hn).filter _) λus=>?_;have hp:0<2^n:=eV n;rw [rO C (by omega),au,qC hn];have e:(2^n-1).testBit=zl 0 n:=funext λx=>zQ n x;rw [e];simp
end Lf
namespace Lf
open Vbahaf
theorem df {a b:Int} {r s:List Int}:rowLess (a::r) (b::s)=true↔a<b∨(a=b/\rowLess r s=true):=by
 simp [rowLess]
theorem fP: ∀(r:List Int),rowLess r r=false
 | []=>rfl
 |a::r=>by
  cases e:rowLess (a::r) (a::r) with
  |false=>rfl
  |true=>
   rcases df.mp e with h|⟨_,h⟩
   ·omega
   ·rw [fP r] at h;cases h
theorem qv: ∀{a b c:List Int},rowLess a b=true->rowLess b c=true->rowLess a c=true
 | [],[],_,h,_=>by cases h
 | [],_::_,[],_,h=>by cases h
 | [],_::_,_::_,_,_=>rfl
 |_::_,[],_,h,_=>by cases h
 |_::_,_::_,[],_,h=>by cases h
 |x::a,y::b,z::c,h,k=>by
  rcases df.mp h with h|⟨e,h⟩<;>rcases df.mp k with k|⟨f,k⟩
  ·exact df.mpr (.inl (by omega))
  ·exact df.mpr (.inl (by omega))
  ·exact df.mpr (.inl (by omega))
  ·exact df.mpr (.inr ⟨by omega,qv h k⟩)
theorem jC: ∀{a b:List Int},rowLess a b=false->rowLess b a=false->a=b
 | [],[],_,_=>rfl
 | [],_::_,h,_=>by cases h
 |_::_,[],_,h=>by cases h
 |x::a,y::b,h,k=>by
  have h': ¬(x<y∨(x=y/\rowLess a b=true)):=λz=>by rw [df.mpr z] at h;cases h
  have k': ¬(y<x∨(y=x/\rowLess b a=true)):=λz=>by rw [df.mpr z] at k;cases k
  have e:x=y:=by omega
  subst e;have e2:a=b:=jC (by cases q:rowLess a b with|false=>rfl|true=>exact (h' (.inr ⟨rfl,q⟩)).elim) (by cases q:rowLess b a with|false=>rfl|true=>exact (k' (.inr ⟨rfl,q⟩)).elim);rw [e2]
theorem u9 {a b:List Int} (h:rowLess a b=true):rowLess b a=false:=by
 cases e:rowLess b a with
 |false=>rfl
 |true=>
  have:=qv h e;rw [fP] at this;cases this
theorem iR {a b c:List Int} (h:rowLess b a=false) (k:rowLess c b=false):rowLess c a=false:=by
 cases e:rowLess c a with
 |false=>rfl
 |true=>
  cases f:rowLess b c with
  |true=>
   have:=qv f e;rw [h] at this;cases this
  |false=>
   have:=jC k f;subst this;rw [h] at e;cases e
def qS (l:List (List Int)) (r:List Int):Prop:=r∈l/\∀x∈l,rowLess x r=false
theorem qS.unique {l:List (List Int)} {r t:List Int} (h:qS l r) (k:qS l t):r=t:=jC (k.2 r h.1) (h.2 t k.1)
theorem kX: ∀(l:List (List Int)) (b:Option (List Int)),
  (l.foldl (λ(b:Option (List Int)) x=>match b with
   |none=>some x
   |some y=>if rowLess x y=true then some x else some y) b=none↔l= []/\b=none)/\
  ∀r,l.foldl (λ(b:Option (List Int)) x=>match b with
   |none=>some x
   |some y=>if rowLess x y=true then some x else some y) b=some r->qS (b.toList++l) r
 | [],b=>by
  constructor
  ·cases b<;>simp
  ·intro r h;have h':b=some r:=h;subst h';exact ⟨by simp,λx hx=>by simp at hx;subst hx;exact fP _⟩
 |x::l,none=>by
  obtain ⟨h1,h2⟩:=kX l (some x);rw [oh];constructor
  ·constructor
   ·intro z;exact absurd (h1.mp z).2 (by simp)
   ·intro z;exact absurd z.1 (by simp)
  ·intro r h;exact h2 r h
 |x::l,some y=>by
  rw [oh];by_cases c:rowLess x y=true
  ·obtain ⟨h1,h2⟩:=kX l (some x);have e:(match (some y:Option (List Int)) with
    |none=>some x
    |some y=>if rowLess x y=true then some x else some y)=some x:=if_pos c
   rw [e];constructor
   ·constructor
    ·intro z;exact absurd (h1.mp z).2 (by simp)
    ·intro z;exact absurd z.1 (by simp)
   ·intro r h;obtain ⟨k1,k2⟩:=h2 r h;refine ⟨?_,λz hz=>?_⟩
    ·simp at k1⊢;rcases k1 with k1|k1
     ·exact .inr (.inl k1)
     ·exact .inr (.inr k1)
    ·simp at hz;rcases hz with rfl|hz
     ·exact iR (k2 x (by simp)) (u9 c)
     ·exact k2 z (by simpa using hz)
  ·obtain ⟨h1,h2⟩:=kX l (some y);have e:(match (some y:Option (List Int)) with
    |none=>some x
    |some y=>if rowLess x y=true then some x else some y)=some y:=if_neg c
   rw [e];constructor
   ·constructor
    ·intro z;exact absurd (h1.mp z).2 (by simp)
    ·intro z;exact absurd z.1 (by simp)
   ·intro r h;obtain ⟨k1,k2⟩:=h2 r h;have hy:=k2 y (by simp);refine ⟨?_,λz hz=>?_⟩
    ·simp at k1⊢;rcases k1 with k1|k1
     ·exact .inl k1
     ·exact .inr (.inr k1)
    ·simp at hz;rcases hz with rfl|rfl|hz
     ·exact hy
     ·exact iR hy (by simpa using c)
     ·exact k2 z (by simp [hz])
theorem dm {l:List (List Int)}:least l=none↔l= []:=by
 have h:least l=none↔l= []/\(none:Option (List Int))=none:=(kX l none).1;rw [h];simp
theorem cq {l:List (List Int)} {r:List Int}:least l=some r↔qS l r:=by
 constructor
 ·intro h;have:=(kX l none).2 r h;simpa using this
 ·intro h;cases e:least l with
  |none=>
   rw [dm] at e;subst e;cases h.1
  |some t=>
   have:=(kX l none).2 t e;rw [h.unique (by simpa using this)]
theorem iS {l t:List (List Int)} (h: ∀x,x∈l↔x∈t):least l=least t:=by
 cases e:least t with
 |none=>
  rw [dm] at e⊢;subst e;exact dJ.mpr λx hx=>by cases (h x).mp hx
 |some r=>
  rw [cq] at e⊢;exact ⟨(h r).mpr e.1,λx hx=>e.2 x ((h x).mp hx)⟩
def QY (us:List Un):List Span:=(JK us).mergeSort λa b=>decide (a.1<=b.1)
theorem JI {M:Nat->Bool} {cs:List Span} {us:List Un} (c:ly M cs) (p:iW cs us):QY us=cs:=by
 have hp:(QY us).Perm cs:=(Je _ _).trans p.perm;have hs:(QY us).Pairwise (λa b=>decide (a.1<=b.1)=true):=De (λa b c h k=>by simp at*;omega) (λa b=>by simp;omega) _;refine hp.eq_of_pairwise (le:=λa b:Span=>a.1<=b.1) (λa b ha hb h1 h2=>?_) (hs.imp λ{a b} h=>by simpa using h) (c.sorted.imp λ{a b} h=>j1 h);have Wc:=hp.mem_iff.mp ha;have key: ∀{l:List Span},l.Pairwise (λa b=>a.1<b.1)->∀a∈l, ∀b∈l,a.1=b.1->a=b:=by
  intro l;induction l with
  |nil=>intro _ a ha;cases ha
  |cons x l ih=>
   intro hl a ha b hb e;obtain ⟨h1,h2⟩:=dg.mp hl;rcases aB.mp ha with q|q<;>rcases aB.mp hb with r|r
   ·rw [q,r]
   ·have:=h1 b r;rw [q] at e;omega
   ·have:=h1 a q;rw [r] at e;omega
   ·exact ih h2 a q b r e
 exact key c.sorted a Wc b hb (by omega)
def Jy (ss:Singles) (ps:Pairs) (us:List Un):Option (List Int):=(priced ss ps (QY us) us).map (rowOf (QY us))
theorem fk {α β:Type} {f g:α->Option β}: ∀{l:List α},(∀a∈l,f a=g a)->l.filterMap f=l.filterMap g
 | [],_=>rfl
 |a::l,h=>by
  rw [cW,cW,h a aN,fk λb hb=>h b (aE _ hb)]
theorem cO {α β:Type} {f g:α->List β}: ∀{l:List α},(∀a∈l,f a=g a)->l.flatMap f=l.flatMap g
 | [],_=>rfl
 |a::l,h=>by
  rw [bB,bB,h a aN,cO λb hb=>h b (aE _ hb)]
theorem jL {α β γ:Type} {f:α->List β} {g:β->Option γ}: ∀{l:List α},(l.flatMap f).filterMap g=l.flatMap λa=>(f a).filterMap g
 | []=>rfl
 |a::l=>by rw [bB,gg,jL,bB]
theorem NW (s:State) (j:Journey) (af:Int) (hn:j.segs.length<=8):rows s j af=(tj j.segs.length).filterMap (Jy (allSingles s j af) (allPairs s j af)):=by
 unfold tj;rw [jL];unfold rows;refine cO λcs hc=>fk λus hu=>?_;have c:=(eO (by omega)).mp hc;have:=oK c;have p:=(dY (by omega)).mp hu;unfold Jy;rw [JI c p]
theorem jK {α β:Type} [BEq α] [LawfulBEq α] {f:α->Option β} {c:α}: ∀{L:List α},c∈L->(L.filterMap λc=>(f c).map λr=>(c,r)).find? (λx=>x.1==c)=(f c).map λr=>(c,r)
 | [],h=>by cases h
 |d::L,h=>by
  rw [cW];by_cases e:d=c
  ·subst e;cases q:f d with
   |some r=>simp
   |none=>
    simp only [MP];by_cases hm:d∈L
    ·rw [jK hm,q];rfl
    ·rw [dI.mpr];intro x hx;obtain ⟨y,hy,ey⟩:=bU.mp hx;cases z:f y with
     |none=>rw [z] at ey;cases ey
     |some v=>
      rw [z] at ey;cases ey;intro w;have:y=d:=by simpa using w
      subst this;exact hm hy
  ·have hm:c∈L:=by
    rcases aB.mp h with z|z
    ·exact absurd z.symm e
    ·exact z
   cases q:f d with
   |none=>simpa using jK hm
   |some r=>
    simp only [cY];rw [iw (by simpa using e)];exact jK hm
theorem rP {i n a e:Nat}:(a,e)∈spans i n↔i<=a/\a<e/\e<=n:=by
 unfold spans;constructor
 ·intro h;obtain ⟨b,hb,h⟩:=aW.mp h;have P9:=bE.mp hb;by_cases hi:b<i
  ·rw [if_pos hi] at h;cases h
  ·rw [if_neg hi] at h;obtain ⟨x,hx,e⟩:=aj.mp h;cases e;obtain ⟨h1,h2⟩:=au.mp hx;have h1':=bE.mp h1;have h2':a<e:=by simpa using h2
   omega
 ·intro ⟨h1,h2,h3⟩;refine aW.mpr ⟨a,bE.mpr (by omega),?_⟩;rw [if_neg (by omega)];exact aj.mpr ⟨e,au.mpr ⟨bE.mpr (by omega),by simpa using h2⟩,rfl⟩
theorem nA {s:State} {j:Journey} {af:Int} {c:Span} (h:c.1<c.2) (h2:c.2<=j.segs.length):
  (allSingles s j af).find? (λx=>x.1==c)=(bestSingle s j af (cut j c.1 c.2)).map λr=>(c,r):=by
 unfold allSingles;exact jK (f:=λc:Nat×Nat=>bestSingle s j af (cut j c.1 c.2)) (rP.mpr ⟨bw _,h,h2⟩)
theorem nB {α β:Type} [BEq α] [LawfulBEq α] {g:α->List α} {f:α->α->Option β} {p q:α} (hq:q∈g p): ∀{L:List α},p∈L->
  (L.flatMap λp=>(g p).filterMap λq=>(f p q).map λr=>((p,q),r)).find? (λx=>x.1==(p,q))=(f p q).map λr=>((p,q),r)
 | [],h=>by cases h
 |d::L,h=>by
  rw [bB,List.find?_append];have K5: ∀{d},d≠p->((g d).filterMap λq=>(f d q).map λr=>((d,q),r)).find? (λx=>x.1==(p,q))=none:=λ{d} e=>by
   rw [dI];intro x hx;obtain ⟨y,hy,ey⟩:=bU.mp hx;cases z:f d y with
   |none=>rw [z] at ey;cases ey
   |some v=>
    rw [z] at ey;cases ey;intro w;have:=(gq (eq_of_beq w)).1;exact e this
  have Vy:((g p).filterMap λq=>(f p q).map λr=>((p,q),r)).find? (λx=>x.1==(p,q))=(f p q).map λr=>((p,q),r):=by
   have k:=jK (f:=f p) hq;have e1:((g p).filterMap λq=>(f p q).map λr=>((p,q),r))=((g p).filterMap λq=>(f p q).map λr=>(q,r)).map λx=>((p,x.1),x.2):=by
    rw [List.map_filterMap];refine fk λa _=>?_;cases f p a<;>rfl
   rw [e1,List.find?_map];have e2:((λx:(α×α)×β=>x.1==(p,q))∘λx:α×β=>((p,x.1),x.2))=λx=>x.1==q:=by
    funext x;show ((p,x.1)==(p,q))=(x.1==q)
    rw [bC];simp
   rw [e2,k];cases f p q<;>rfl
  rcases MU (d=p) with e|e
  ·subst e;rw [Vy];cases z:f d q with
   |some r=>rfl
   |none=>
    simp only [MP,Ni];rcases MU (d∈L) with hm|hm
    ·rw [nB hq hm,z];rfl
    ·rw [dI];intro x hx;obtain ⟨y,hy,hx⟩:=aW.mp hx;have:y≠d:=λw=>hm (w▸hy);have:=dI.mp (K5 this) x hx;exact this
  ·rw [K5 e,Ni];refine nB hq ?_;rcases aB.mp h with z|z
   ·exact absurd z.symm e
   ·exact z
theorem IG {s:State} {j:Journey} {af:Int} {p q:Span} (h1:p.1<p.2) (h2:p.2<=q.1) (h3:q.1<q.2) (h4:q.2<=j.segs.length):
  (allPairs s j af).find? (λx=>x.1==(p,q))=(bestPair s j af (cut j p.1 p.2) (cut j q.1 q.2)).map λr=>((p,q),r):=by
 unfold allPairs;exact nB (g:=λp:Nat×Nat=>spans p.2 j.segs.length) (f:=λp q:Nat×Nat=>bestPair s j af (cut j p.1 p.2) (cut j q.1 q.2)) (rP.mpr ⟨h2,h3,h4⟩) (rP.mpr ⟨bw _,h1,aV h2 (aV (j1 h3) h4)⟩)
end Lf
namespace Lf
open Vbahaf
theorem cM {lo hi x:Int}:within lo hi x=true↔lo<=x/\x<=hi:=by unfold within;simp
structure X2 (j:Journey):Prop where
 le:1<=j.segs.length
 ge:j.segs.length<=8
 seg: ∀g∈j.segs,segIn g=true
 joins:joins j.segs=true
 now:dayIn j.now=true
 day:j.now<=dayOf j.segs
structure kE (s:State):Prop where
 fs:s.fares.Pairwise (λa b=>a.key<b.key)
 fr: ∀f∈s.fares,fareIn f=true/\f.src≠f.dst
 fl:s.fares.length<=60
 os:(s.floors.map λx=>(x.1,x.2.1)).Nodup
 or: ∀x∈s.floors,airportIn x.1=true/\airportIn x.2.1=true/\1<=x.2.2/\x.2.2<=MONEY
 ol:s.floors.length<=40
 ts:(s.taxes.map λx=>x.1).Nodup
 tr: ∀x∈s.taxes,airportIn x.1=true/\1<=x.2/\x.2<=MONEY
 tl:s.taxes.length<=40
 pl:s.percents.length=5
 pr: ∀p∈s.percents,0<=p/\p<=200
 un:1<=s.unit/\s.unit<=10000
 co: ∀x∈s.combos,0<=x.1/\x.1<=7/\0<=x.2/\x.2<=7
 jo: ∀j,s.journey=some j->X2 j
theorem oA {α:Type} (p q:α->Bool) (hpq: ∀x,p x=true->q x=false): ∀(l:List α),(l.filter p++l.filter q).Perm (l.filter λx=>p x||q x)
 | []=> .refl _
 |x::l=>by
  have ih:=oA p q hpq l;cases e:p x with
  |true=>
   have e2:=hpq x e;simp only [br,e,e2,TW,if_true,bM,if_false,Nk];exact ih.cons _
  |false=>
   cases e2:q x with
   |true=>
    simp only [br,e,e2,re,if_true,bM,if_false];exact i6.trans (ih.cons _)
   |false=>
    simp only [br,e,e2,re,bM,if_false];exact ih
theorem kz {α:Type} {p q:α->Bool} {l:List α} (h: ∀x∈l,p x=q x):l.filter p=l.filter q:=iy h
theorem kg (l:List Fare) (f:Fare):(withFare l f).Perm (f::l.filter λx=>decide (x.key≠f.key)):=by
 unfold withFare;refine i6.trans (mR _ ?_);refine (oA (λx:Fare=>decide (x.key<f.key)) (λx:Fare=>decide (f.key<x.key)) (λx h=>by simp at*;omega) l).trans (.of_eq (kz λx _=>?_));rw [bC];simp;omega
theorem Ct {a b:Int} {x:Int×Int×Int} (h:before2 a b x=true):isFloor a b x=false:=by
 unfold before2 at h;unfold isFloor;simp at*;omega
theorem mX (l:List (Int×Int×Int)) (a b m:Int):(withFloor l a b m).Perm ((if m=0 then [] else [(a,b,m)])++l.filter λx=>!isFloor a b x):=by
 unfold withFloor;have h:=oA (before2 a b) (λx=>!before2 a b x&&!isFloor a b x) (λx h=>by rw [h];rfl) l;have e:(l.filter λx=>before2 a b x||(!before2 a b x&&!isFloor a b x))=l.filter λx=>!isFloor a b x:=kz λx _=>by
  cases q:before2 a b x with
  |true=>rw [Ct q];rfl
  |false=>simp
 rw [e] at h;by_cases hm:m=0
 ·rw [if_pos hm,dc,wV];exact h
 ·rw [if_neg hm,cp];exact i6.trans (h.cons _)
theorem qf (l:List (Int×Int)) (a m:Int):(withTax l a m).Perm ((if m=0 then [] else [(a,m)])++l.filter λx=>decide (x.1≠a)):=by
 unfold withTax;have h:=oA (λx:Int×Int=>decide (x.1<a)) (λx:Int×Int=>decide (a<x.1)) (λx h=>by simp at*;omega) l;have e:(l.filter λx=>decide (x.1<a)||decide (a<x.1))=l.filter λx=>decide (x.1≠a):=kz λx _=>by
  rw [bC];simp;omega
 rw [e] at h;by_cases hm:m=0
 ·rw [if_pos hm,dc,wV];exact h
 ·rw [if_neg hm,cp];exact i6.trans (h.cons _)
theorem sZ {l:List Fare} (h:l.Pairwise λa b=>a.key<b.key) (f:Fare):(withFare l f).Pairwise λa b=>a.key<b.key:=by
 unfold withFare;refine List.pairwise_append.mpr ⟨h.filter _,dg.mpr ⟨λb hb=>?_,h.filter _⟩,λa ha b hb=>?_⟩
 ·simpa using (au.mp hb).2
 ·have h1:a.key<f.key:=by simpa using (au.mp ha).2
  rcases aB.mp hb with rfl|hb
  ·exact h1
  ·have h2:f.key<b.key:=by simpa using (au.mp hb).2
   omega
theorem Os {l:List Fare} (h:l.Pairwise λa b=>a.key<b.key): ∀a∈l, ∀b∈l,a.key=b.key->a=b:=by
 induction l with
 |nil=>intro a ha;cases ha
 |cons x l ih=>
  intro a ha b hb e;obtain ⟨h1,h2⟩:=dg.mp h;rcases aB.mp ha with q|q<;>rcases aB.mp hb with r|r
  ·rw [q,r]
  ·have:=h1 b r;rw [q] at e;omega
  ·have:=h1 a q;rw [r] at e;omega
  ·exact ih h2 a q b r e
theorem iU {s:State} (ok:kE s) {k:Int} {f:Fare}:fareOf s k=some f↔f∈s.fares/\f.key=k:=by
 unfold fareOf;constructor
 ·intro h;exact ⟨cV h,by simpa using fY h⟩
 ·intro ⟨h1,h2⟩;cases e:s.fares.find? λf=>decide (f.key=k) with
  |none=>exact absurd (decide_eq_true h2) (by simpa using dI.mp e f h1)
  |some g=>
   have hg:g.key=k:=by simpa using fY e
   rw [Os ok.fs g (cV e) f h1 (hg.trans h2.symm)]
theorem sJ {s:State} {k:Int}:fareOf s k=none↔∀f∈s.fares,f.key≠k:=by
 unfold fareOf;rw [dI];simp
theorem JH:kE start where
 fs:= .nil
 fr:=λf h=>by cases h
 fl:=by decide
 os:=eI
 or:=λf h=>by cases h
 ol:=by decide
 ts:=eI
 tr:=λf h=>by cases h
 tl:=by decide
 pl:=rfl
 pr:=λp h=>by
  have h:p∈ [100,100,100,100,100]:=h;simp at h;subst h;decide
 un:=by decide
 co:=by decide
 jo:=λj h=>by cases h
theorem pD: ∀(l:List Int),(segsOf l).length=l.length/5
 | []=>rfl
 | [_]=>by simp [segsOf]
 | [_,_]=>by simp [segsOf]
 | [_,_,_]=>by simp [segsOf]
 | [_,_,_,_]=>by simp [segsOf]
 |_::_::_::_::_::r=>by
  unfold segsOf;simp only [aS,pD r];omega
theorem j4 {s:State} (ok:kE s) {c:Call} (hc:inRange c=true):kE (step s c).1:=by
 cases c with
 |fare f=>
  unfold step;dsimp only;by_cases h1:f.src=f.dst
  ·rw [if_pos h1];exact ok
  ·rw [if_neg h1];by_cases h2:(fareOf s f.key).isNone=true/\FARES<=s.fares.length
   ·rw [if_pos h2];exact ok
   ·rw [if_neg h2];have hp:=kg s.fares f;have hm: ∀g∈withFare s.fares f,g=f∨g∈s.fares:=λg hg=>by
     rcases aB.mp (hp.mem_iff.mp hg) with e|e
     ·exact .inl e
     ·exact .inr (au.mp e).1
    refine {ok with fs:=sZ ok.fs f,fr:=λg hg=>?_,fl:=?_}
    ·rcases hm g hg with e|e
     ·subst e;exact ⟨hc,h1⟩
     ·exact ok.fr g e
    ·show (withFare s.fares f).length<=60;rw [hp.length_eq,aS];have hle:(s.fares.filter λx=>decide (x.key≠f.key)).length<=s.fares.length:=aO _ _;have:=ok.fl;cases q:fareOf s f.key with
     |none=>
      have: ¬FARES<=s.fares.length:=λz=>h2 ⟨by rw [q];rfl,z⟩;have e60:FARES=60:=rfl;omega
     |some g=>
      obtain ⟨V2,OC⟩:=(iU ok).mp q;have i4:(s.fares.filter λx=>decide (x.key≠f.key)).length<s.fares.length:=by
       refine gu.mpr ⟨g,V2,?_⟩;simp [OC]
      omega
 |unfare k=>
  unfold step;dsimp only;by_cases h:(fareOf s k).isNone=true
  ·rw [if_pos h];exact ok
  ·rw [if_neg h];exact {ok with fs:=ok.fs.filter _,fr:=λg hg=>ok.fr g (au.mp hg).1,fl:=aV (aO _ _) ok.fl}
 |combine g h y=>
  unfold step;dsimp only;refine {ok with co:=λx hx=>?_};have hx:x∈GROUPPAIRS:=(au.mp hx).1;have all: ∀x∈GROUPPAIRS,0<=x.1/\x.1<=7/\0<=x.2/\x.2<=7:=by decide
  exact all x hx
 |floor a b m=>
  unfold step;dsimp only;by_cases h1:a=b
  ·rw [if_pos h1];exact ok
  ·rw [if_neg h1];by_cases h2:(s.floors.any (isFloor a b))=false/\m≠0/\FLOORS<=s.floors.length
   ·rw [if_pos h2];exact ok
   ·rw [if_neg h2];have hp:=mX s.floors a b m;have hr:airportIn a=true/\airportIn b=true/\0<=m/\m<=MONEY:=by
     have:(airportIn a&&airportIn b&&within 0 MONEY m)=true:=hc;simp only [aU,cM] at this;exact ⟨this.1.1,this.1.2,this.2⟩
    have RO:(s.floors.filter λx=>!isFloor a b x).length<=s.floors.length:=aO _ _;refine {ok with os:=?_,or:=λx hx=>?_,ol:=?_}
    ·refine ((hp.map λx=>(x.1,x.2.1)).nodup_iff).mpr ?_;rw [aP];have hn:((s.floors.filter λx=>!isFloor a b x).map λx=>(x.1,x.2.1)).Nodup:=ok.os.sublist (qc.map _);by_cases hm:m=0
     ·rw [if_pos hm];exact hn
     ·rw [if_neg hm];refine bj.mpr ⟨λz=>?_,hn⟩;obtain ⟨x,hx,e⟩:=aj.mp z;have:=(au.mp hx).2;unfold isFloor at this;have e1:=(gq e).1;have e2:=(gq e).2;simp [e1,e2] at this
    ·rcases bF.mp (hp.mem_iff.mp hx) with z|z
     ·by_cases hm:m=0
      ·rw [if_pos hm] at z;cases z
      ·rw [if_neg hm] at z;have:=aR.mp z;subst this;exact ⟨hr.1,hr.2.1,by show 1<=m;omega,hr.2.2.2⟩
     ·exact ok.or x (au.mp z).1
    ·show (withFloor s.floors a b m).length<=40;rw [hp.length_eq,aK];have:=ok.ol;by_cases hm:m=0
     ·rw [if_pos hm];show 0+_<=40;omega
     ·rw [if_neg hm];show 1+_<=40;cases q:s.floors.any (isFloor a b) with
      |false=>
       have: ¬FLOORS<=s.floors.length:=λz=>h2 ⟨q,hm,z⟩;have e40:FLOORS=40:=rfl;omega
      |true=>
       obtain ⟨x,hx,Zw⟩:=gL.mp q;have i4:(s.floors.filter λx=>!isFloor a b x).length<s.floors.length:=gu.mpr ⟨x,hx,by simp [Zw]⟩;omega
 |tax a m=>
  unfold step;dsimp only;by_cases h2:(s.taxes.any λx=>decide (x.1=a))=false/\m≠0/\TAXES<=s.taxes.length
  ·rw [if_pos h2];exact ok
  ·rw [if_neg h2];have hp:=qf s.taxes a m;have hr:airportIn a=true/\0<=m/\m<=MONEY:=by
    have:(airportIn a&&within 0 MONEY m)=true:=hc;simp only [aU,cM] at this;exact ⟨this.1,this.2⟩
   have RO:(s.taxes.filter λx=>decide (x.1≠a)).length<=s.taxes.length:=aO _ _;refine {ok with ts:=?_,tr:=λx hx=>?_,tl:=?_}
   ·refine ((hp.map λx=>x.1).nodup_iff).mpr ?_;rw [aP];have hn:((s.taxes.filter λx=>decide (x.1≠a)).map λx=>x.1).Nodup:=ok.ts.sublist (qc.map _);by_cases hm:m=0
    ·rw [if_pos hm];exact hn
    ·rw [if_neg hm];refine bj.mpr ⟨λz=>?_,hn⟩;obtain ⟨x,hx,e⟩:=aj.mp z;have:=(au.mp hx).2;have e:x.1=a:=e;simp [e] at this
   ·rcases bF.mp (hp.mem_iff.mp hx) with z|z
    ·by_cases hm:m=0
     ·rw [if_pos hm] at z;cases z
     ·rw [if_neg hm] at z;have:=aR.mp z;subst this;exact ⟨hr.1,by show 1<=m;omega,hr.2.2⟩
    ·exact ok.tr x (au.mp z).1
   ·show (withTax s.taxes a m).length<=40;rw [hp.length_eq,aK];have:=ok.tl;by_cases hm:m=0
    ·rw [if_pos hm];show 0+_<=40;omega
    ·rw [if_neg hm];show 1+_<=40;cases q:s.taxes.any λx=>decide (x.1=a) with
     |false=>
      have: ¬TAXES<=s.taxes.length:=λz=>h2 ⟨q,hm,z⟩;have e40:TAXES=40:=rfl;omega
     |true=>
      obtain ⟨x,hx,Zw⟩:=gL.mp q;have i4:(s.taxes.filter λx=>decide (x.1≠a)).length<s.taxes.length:=gu.mpr ⟨x,hx,by simpa using Zw⟩;omega
 |percent k p=>
  unfold step;dsimp only;have hr:kindIn k=true/\0<=p/\p<=200:=by
   have:(kindIn k&&within 0 200 p)=true:=hc;simp only [aU,cM] at this;exact ⟨this.1,this.2⟩
  refine {ok with pl:=by show (s.percents.set _ _).length=5;rw [wW];exact ok.pl,pr:=λq hq=>?_};rcases List.mem_or_eq_of_mem_set hq with z|z
  ·exact ok.pr q z
  ·rw [z];exact hr.2
 |unit u=>
  unfold step;dsimp only;exact {ok with un:=cM.mp hc}
 |journey n l=>
  unfold step;dsimp only;have hr:(dayIn n&&(decide (5<=l.length)&&(decide (l.length<=40)&&(decide (l.length%5=0)&&(segsOf l).all segIn))))=true:=hc;simp only [aU,decide_eq_true_eq,bP] at hr;obtain ⟨h1,h2,h3,h4,h5⟩:=hr;show kE (if joins (segsOf l)=false∨dayOf (segsOf l)<n then (s,[-6]) else ({s with journey:=some {now:=n,segs:=segsOf l}},[0])).1;by_cases hj:joins (segsOf l)=false∨dayOf (segsOf l)<n
  ·rw [if_pos hj];exact ok
  ·rw [if_neg hj];refine {ok with jo:=λj e=>?_};have e:some ({now:=n,segs:=segsOf l}:Journey)=some j:=e;cases e;have hl:=pD l;refine ⟨by show 1<=(segsOf l).length;omega,by show (segsOf l).length<=8;omega,h5,?_,h1,?_⟩
   ·cases q:joins (segsOf l) with
    |true=>rfl
    |false=>exact absurd (.inl q) hj
   ·show n<=dayOf (segsOf l);have: ¬dayOf (segsOf l)<n:=λz=>hj (.inr z);omega
 |price k=>unfold step withJourney;dsimp only;cases s.journey<;>exact ok
 |party l=>unfold step withJourney;dsimp only;cases s.journey<;>exact ok
 |singles k i e=>unfold step withJourney;dsimp only;cases s.journey<;>exact ok
 |pair k i e p q=>unfold step withJourney;dsimp only;cases s.journey<;>exact ok
 |check k l=>unfold step withJourney;dsimp only;cases s.journey<;>exact ok
 |alone k=>unfold step withJourney;dsimp only;cases s.journey<;>exact ok
 |count k=>unfold step withJourney;dsimp only;cases s.journey<;>exact ok
 |prefixes k=>unfold step withJourney;dsimp only;cases s.journey<;>exact ok
 |fares=>exact ok
 |told=>unfold step withJourney;dsimp only;cases s.journey<;>exact ok
end Lf
namespace Lf
open Vbahaf
theorem xi {α:Type} {M:α->List (List Int)} {g:α->List Int->List Int} {L:List α} (hg: ∀u∈L, ∀x∈M u, ∀y∈M u,rowLess x y=false->rowLess (g u x) (g u y)=false):
  least (L.flatMap λu=>(M u).map (g u))=least (L.filterMap λu=>(least (M u)).map (g u)):=by
 cases e:least (L.filterMap λu=>(least (M u)).map (g u)) with
 |none=>
  rw [dm] at e⊢;refine dJ.mpr λx hx=>?_;obtain ⟨u,hu,hx⟩:=aW.mp hx;obtain ⟨y,hy,rfl⟩:=aj.mp hx;cases q:least (M u) with
  |none=>rw [dm] at q;rw [q] at hy;cases hy
  |some r=>
   have:g u r∈(L.filterMap λu=>(least (M u)).map (g u)):=bU.mpr ⟨u,hu,by rw [q];rfl⟩;rw [e] at this;cases this
 |some r=>
  rw [cq] at e⊢;obtain ⟨hr,hm⟩:=e;constructor
  ·obtain ⟨u,hu,e⟩:=bU.mp hr;cases q:least (M u) with
   |none=>rw [q] at e;cases e
   |some t=>
    rw [q] at e;cases e;exact aW.mpr ⟨u,hu,aj.mpr ⟨t,(cq.mp q).1,rfl⟩⟩
  ·intro x hx;obtain ⟨u,hu,hx⟩:=aW.mp hx;obtain ⟨y,hy,rfl⟩:=aj.mp hx;cases q:least (M u) with
   |none=>rw [dm] at q;rw [q] at hy;cases hy
   |some t=>
    have h1:rowLess (g u t) r=false:=hm _ (bU.mpr ⟨u,hu,by rw [q];rfl⟩);have h2:rowLess (g u y) (g u t)=false:=hg u hu y hy t (cq.mp q).1 ((cq.mp q).2 y hy);exact iR h1 h2
def jM (p c:Int):List Int->List Int
 |a::b::r=>(a+p)::(b+c)::r
 |r=>r
def jl (pd cn:Un->Int) (us:List Un):List Int:= [(us.map pd).sum,(us.map cn).sum]
theorem kM (pd cn:Un->Int) (u:Un) (l:List Un):jl pd cn (u::l)=jM (pd u) (cn u) (jl pd cn l):=by
 unfold jl jM;simp only [bb,fe,eJ,and_true];exact ⟨tX _ _,tX _ _⟩
theorem yx (p c a b a' b':Int):rowLess (jM p c [a,b]) (jM p c [a',b'])=rowLess [a,b] [a',b']:=by
 rw [bC];unfold jM;rw [df,df,df,df];simp only [fP,bM,and_false,or_false];omega
section
variable {ch:Nat->List Un} {cv:Un->Nat}
theorem uE (C:sn ch cv): ∀{k k' m:Nat},m<k->m<k'->kL ch cv k m=kL ch cv k' m
 |0,_,_,h,_=>absurd h (dZ _)
 |_+1,0,_,_,h=>absurd h (dZ _)
 |k+1,k'+1,m,h,h'=>by
  unfold kL;by_cases h0:m=0
  ·rw [if_pos h0,if_pos h0]
  ·rw [if_neg h0,if_neg h0];refine cO λu hu=>?_;obtain ⟨zK,HZ⟩:=au.mp hu;have hs:cv u&&&m=cv u:=by simpa using HZ
   have i4:=tZ hs (C.ne zK);rw [uE C (k:=k) (k':=k') (by omega) (by omega)]
end
def T (ch:Nat->List Un) (cv:Un->Nat) (m:Nat):List (List Un):=kL ch cv (m+1) m
def ji (ch:Nat->List Un) (cv:Un->Nat) (m:Nat):List Un:=(ch (low m)).filter λu=>decide (cv u&&&m=cv u)
section
variable {ch:Nat->List Un} {cv:Un->Nat} {pd cn:Un->Int}
theorem EY:T ch cv 0= [[]]:=by unfold T kL;rw [if_pos rfl]
theorem qe (C:sn ch cv) {m:Nat} {u:Un} (hu:u∈ji ch cv m):m-cv u<m:=by
 obtain ⟨zK,HZ⟩:=au.mp hu;have hs:cv u&&&m=cv u:=by simpa using HZ
 exact tZ hs (C.ne zK)
theorem Ag (C:sn ch cv) {m:Nat} (h:m≠0):T ch cv m=(ji ch cv m).flatMap λu=>(T ch cv (m-cv u)).map λl=>u::l:=by
 unfold T;rw [kL,if_neg h];refine cO λu hu=>?_;have i4:=qe C (m:=m) hu;rw [uE C (k:=m) (k':=m-cv u+1) i4 (fH _)]
def Sm (ch:Nat->List Un) (cv:Un->Nat) (pd cn:Un->Int) (m:Nat):Option (List Int):=least ((T ch cv m).map (jl pd cn))
theorem Ai:Sm ch cv pd cn 0=some [0,0]:=by
 unfold Sm;rw [EY];rfl
theorem jN {m:Nat} {r:List Int} (h:Sm ch cv pd cn m=some r): ∃a b,r= [a,b]:=by
 obtain ⟨us,_,rfl⟩:=aj.mp (cq.mp h).1;exact ⟨_,_,rfl⟩
theorem Gr (C:sn ch cv) {m:Nat} (h:m≠0):Sm ch cv pd cn m=least ((ji ch cv m).filterMap λu=>(Sm ch cv pd cn (m-cv u)).map (jM (pd u) (cn u))):=by
 unfold Sm;rw [Ag C h,uu];rw [<-xi (M:=λu=>(T ch cv (m-cv u)).map (jl pd cn)) (g:=λu=>jM (pd u) (cn u))]
 ·congr 1
  refine cO λu _=>?_;rw [bi,bi];refine bO λl _=>?_;exact kM pd cn u l
 ·intro u _ x hx y hy hxy;obtain ⟨a,_,rfl⟩:=aj.mp hx;obtain ⟨b,_,rfl⟩:=aj.mp hy;unfold jl at*;rw [yx];exact hxy
theorem WM (C:sn ch cv) {m:Nat} (h:m≠0):(T ch cv m).length=((ji ch cv m).map λu=>(T ch cv (m-cv u)).length).sum:=by
 rw [Ag C h,List.length_flatMap]
 congr 1
 refine bO λu _=>?_;rw [ab]
theorem Gs {m:Nat}:Sm ch cv pd cn m=none↔T ch cv m= []:=by
 unfold Sm;rw [dm,qb]
def Op (ch:Nat->List Un) (cv:Un->Nat) (pd cn:Un->Int) (m:Nat):List (List Un):=(T ch cv m).filter λus=>decide (Sm ch cv pd cn m=some (jl pd cn us))
def FW (ch:Nat->List Un) (cv:Un->Nat) (pd cn:Un->Int) (m:Nat):List Un:=(ji ch cv m).filter λu=>decide ((Sm ch cv pd cn (m-cv u)).map (jM (pd u) (cn u))=Sm ch cv pd cn m)
theorem Gu:Op ch cv pd cn 0= [[]]:=by
 unfold Op;rw [EY,Ai];rfl
theorem mm {α β:Type} {f:α->List β} {p:β->Bool}: ∀{l:List α},(l.flatMap f).filter p=l.flatMap λa=>(f a).filter p
 | []=>rfl
 |a::l=>by rw [bB,cD,mm,bB]
theorem jb {α β:Type} {f:α->List β} {p:α->Bool}: ∀{l:List α},(l.filter p).flatMap f=l.flatMap λa=>if p a=true then f a else []
 | []=>rfl
 |a::l=>by
  rw [br,bB];cases h:p a with
  |true=>rw [if_pos rfl,if_pos rfl,bB,jb]
  |false=>rw [if_neg aI,if_neg aI,jb];rfl
theorem FM (C:sn ch cv) {m:Nat} (h:m≠0) {u:Un} (hu:u∈ji ch cv m) {l:List Un} (hl:l∈T ch cv (m-cv u)):
  Sm ch cv pd cn m=some (jl pd cn (u::l))↔(Sm ch cv pd cn (m-cv u)).map (jM (pd u) (cn u))=Sm ch cv pd cn m/\Sm ch cv pd cn (m-cv u)=some (jl pd cn l):=by
 constructor
 ·intro e;cases q:Sm ch cv pd cn (m-cv u) with
  |none=>
   rw [Gs] at q;rw [q] at hl;cases hl
  |some r=>
   obtain ⟨a,b,rfl⟩:=jN q;have q':=cq.mp q;have hr: [a,b]=jl pd cn l:=by
    refine jC ?_ (q'.2 _ (aj.mpr ⟨l,hl,rfl⟩));obtain ⟨us,Dl,eus⟩:=aj.mp q'.1;have iF:u::us∈T ch cv m:=by
     rw [Ag C h];exact aW.mpr ⟨u,hu,aj.mpr ⟨us,Dl,rfl⟩⟩
    have k:=(cq.mp e).2 _ (aj.mpr ⟨u::us,iF,rfl⟩);rw [kM,kM,eus] at k;unfold jl at k⊢;rw [yx] at k;exact k
   rw [hr,e,kM];exact ⟨rfl,rfl⟩
 ·intro ⟨e1,e2⟩;rw [<-e1,e2,kM];rfl
theorem Gv (C:sn ch cv) {m:Nat} (h:m≠0):Op ch cv pd cn m=(FW ch cv pd cn m).flatMap λu=>(Op ch cv pd cn (m-cv u)).map λl=>u::l:=by
 unfold FW;rw [jb]
 conv=>lhs;unfold Op;rw [Ag C h,mm]
 refine cO λu hu=>?_;rw [ib];by_cases g:(Sm ch cv pd cn (m-cv u)).map (jM (pd u) (cn u))=Sm ch cv pd cn m
 ·rw [if_pos (by simpa using g)];unfold Op
  congr 1
  refine iy λl hl=>?_;show decide (Sm ch cv pd cn m=some (jl pd cn (u::l)))=_;rw [decide_eq_decide,FM C h hu hl];exact ⟨λz=>z.2,λz=>⟨g,z⟩⟩
 ·rw [if_neg (by simpa using g)];rw [qb,List.filter_eq_nil_iff];intro l hl z;have z:Sm ch cv pd cn m=some (jl pd cn (u::l)):=by simpa using z
  exact g ((FM C h hu hl).mp z).1
theorem Gw {m:Nat} {r:List Int} (h:Sm ch cv pd cn m=some r):Op ch cv pd cn m≠ []:=by
 obtain ⟨us,Dl,e⟩:=aj.mp (cq.mp h).1;intro z;have:us∈Op ch cv pd cn m:=au.mpr ⟨Dl,by rw [h,e];simp⟩;rw [z] at this;cases this
theorem KN {m:Nat} {r:List Int} (h:Sm ch cv pd cn m=some r) {u:Un} (hu:u∈FW ch cv pd cn m): ∃r',Sm ch cv pd cn (m-cv u)=some r':=by
 have:=(au.mp hu).2;have:(Sm ch cv pd cn (m-cv u)).map (jM (pd u) (cn u))=Sm ch cv pd cn m:=by simpa using this
 rw [h] at this;cases q:Sm ch cv pd cn (m-cv u) with
 |none=>rw [q] at this;cases this
 |some r'=>exact ⟨r',rfl⟩
theorem NY {a b a' b':Int} {r t:List Int}:rowLess ([a,b] ++r) ([a',b'] ++t)=true↔rowLess [a,b] [a',b']=true∨([a,b]= [a',b']/\rowLess r t=true):=by
 show rowLess (a::b::r) (a'::b'::t)=true↔_;rw [df,df,df,df];simp only [fP,bM,and_false,or_false,eJ,and_true];constructor
 ·rintro (h|⟨h1,h2|⟨h2,h3⟩⟩)
  ·exact .inl (.inl h)
  ·exact .inl (.inr ⟨h1,h2⟩)
  ·exact .inr ⟨⟨h1,h2⟩,h3⟩
 ·rintro ((h|⟨h1,h2⟩)|⟨⟨h1,h2⟩,h3⟩)
  ·exact .inl h
  ·exact .inr ⟨h1, .inl h2⟩
  ·exact .inr ⟨h1, .inr ⟨h2,h3⟩⟩
theorem BM {m:Nat} (pz:List Un->List Int) {r:List Int} (h:Sm ch cv pd cn m=some r) {t:List Int} (ht:least ((Op ch cv pd cn m).map pz)=some t):
  least ((T ch cv m).map λus=>jl pd cn us++pz us)=some (r++t):=by
 obtain ⟨a,b,rfl⟩:=jN h;rw [cq] at ht⊢;obtain ⟨h1,h2⟩:=cq.mp h;obtain ⟨h3,h4⟩:=ht;constructor
 ·obtain ⟨us,Dl,rfl⟩:=aj.mp h3;obtain ⟨hm,he⟩:=au.mp Dl;have he:Sm ch cv pd cn m=some (jl pd cn us):=by simpa using he
  rw [h] at he;exact aj.mpr ⟨us,hm,by rw [<-bx he]⟩
 ·intro x hx;obtain ⟨us,Dl,rfl⟩:=aj.mp hx;cases z:rowLess (jl pd cn us++pz us) ([a,b] ++t) with
  |false=>rfl
  |true=>
   unfold jl at z;rcases NY.mp z with q|⟨q1,q2⟩
   ·have:=h2 _ (aj.mpr ⟨us,Dl,rfl⟩);unfold jl at this;rw [this] at q;cases q
   ·have:pz us∈(Op ch cv pd cn m).map pz:=aj.mpr ⟨us,au.mpr ⟨Dl,by rw [h];unfold jl;rw [q1];simp⟩,rfl⟩;rw [h4 _ this] at q2;cases q2
theorem vN {m:Nat} (pz:List Un->List Int) {r:List Int} (h:Sm ch cv pd cn m=some r): ∃t,least ((Op ch cv pd cn m).map pz)=some t:=by
 cases q:least ((Op ch cv pd cn m).map pz) with
 |some t=>exact ⟨t,rfl⟩
 |none=>
  rw [dm,qb] at q;exact absurd q (Gw h)
end
end Lf
namespace Lf
open Vbahaf
def tJ (s:State) (j:Journey) (af:Int) (u:Un):Option (List Int):=match u.2 with
 |none=>bestSingle s j af (cut j u.1.1 u.1.2)
 |some q=>bestPair s j af (cut j u.1.1 u.1.2) (cut j q.1 q.2)
theorem gD {s:State} {j:Journey} {af:Int} {c:Comp} {r:List Int} (h:bestSingle s j af c=some r): ∃a k,r= [a,k]:=by
 obtain ⟨f,_,rfl⟩:=aj.mp (cq.mp h).1;exact ⟨_,_,rfl⟩
theorem nI {s:State} {j:Journey} {af:Int} {p q:Comp} {r:List Int} (h:bestPair s j af p q=some r): ∃a k m,r= [a,k,m]:=by
 obtain ⟨f,_,h⟩:=aW.mp (cq.mp h).1;obtain ⟨g,_,rfl⟩:=aj.mp h;exact ⟨_,_,_,rfl⟩
def pd (s:State) (j:Journey) (af:Int) (u:Un):Int:=((tJ s j af u).getD []).getD 0 0
def k1 (s:State) (j:Journey) (af:Int) (u:Un):Int:=((tJ s j af u).getD []).getD 1 0
def k2 (s:State) (j:Journey) (af:Int) (u:Un):Int:=((tJ s j af u).getD []).getD 2 0
def cn (u:Un):Int:=match u.2 with
 |none=>1
 |some _=>2
def jV (s:State) (j:Journey) (af:Int) (u:Un):List (Span×Int×Option Span):=match u.2 with
 |none=> [(u.1,k1 s j af u,none)]
 |some q=> [(u.1,k1 s j af u,some q),(q,k2 s j af u,some u.1)]
def Jg (cs:List Span):Option Span->Int
 |none=>0
 |some p=>placeIn cs p
def tm (u:Un):Nat:=match u.2 with
 |none=>u.1.2
 |some q=>q.2
def uI (ps:List (Span×Int×Option Span)):List (Span×Int×Option Span):=ps.mergeSort λa b=>decide (a.1.1<=b.1.1)
def Nm (q:List (Span×Int×Option Span)):List Int:=q.flatMap λx=> [(x.1.2:Int),x.2.1,Jg (q.map (·.1)) x.2.2]
def pz (s:State) (j:Journey) (af:Int) (us:List Un):List Int:=Nm (uI (us.flatMap (jV s j af)))
theorem N1 (s:State) (j:Journey) (af:Int) (u:Un):(jV s j af u).map (·.1)=Uu u:=by
 unfold jV Uu;cases u.2<;>rfl
theorem rJ (s:State) (j:Journey) (af:Int) (us:List Un):(us.flatMap (jV s j af)).map (·.1)=JK us:=by
 unfold JK;rw [uu];exact cO λu _=>N1 s j af u
theorem rL {s:State} {j:Journey} {af:Int} (cs:List Span): ∀{us:List Un},(∀u∈us,IV u/\tm u<=j.segs.length)->
  priced (allSingles s j af) (allPairs s j af) cs us=if (us.all λu=>(tJ s j af u).isSome)=true then some ((us.map (pd s j af)).sum,(us.flatMap (jV s j af)).map λy=>(y.1,y.2.1,Jg cs y.2.2)) else none
 | [],_=>rfl
 |(c,none)::us,h=>by
  have ih:=rL (s:=s) (af:=af) cs (us:=us) λu hu=>h u (aE _ hu);obtain ⟨h1,h2⟩:=h (c,none) aN;have hf:=nA (s:=s) (j:=j) (af:=af) (c:=c) h1.1 h2;unfold priced;rw [hf,ih];have eb:tJ s j af (c,none)=bestSingle s j af (cut j c.1 c.2):=rfl;rw [gb,eb];cases q:bestSingle s j af (cut j c.1 c.2) with
  |none=>rfl
  |some r=>
   obtain ⟨a,k,rfl⟩:=gD q;have e1:pd s j af (c,none)=a:=by unfold pd;rw [eb,q];rfl
   have e2:k1 s j af (c,none)=k:=by unfold k1;rw [eb,q];rfl
   simp only [cY,hU,eC];by_cases g:(us.all λu=>(tJ s j af u).isSome)=true
   ·rw [if_pos g,if_pos g];simp only [bb,fe,bB,aP,e1];rw [show jV s j af (c,none)= [(c,k1 s j af (c,none),none)] from rfl,e2];rfl
   ·rw [if_neg g,if_neg g]
 |(p,some q)::us,h=>by
  have ih:=rL (s:=s) (af:=af) cs (us:=us) λu hu=>h u (aE _ hu);obtain ⟨h1,h2⟩:=h (p,some q) aN;obtain ⟨h3,h4⟩:=h1.2 q rfl;have hf:=IG (s:=s) (j:=j) (af:=af) (p:=p) (q:=q) h1.1 h3 h4 h2;unfold priced;rw [hf,ih];have eb:tJ s j af (p,some q)=bestPair s j af (cut j p.1 p.2) (cut j q.1 q.2):=rfl;rw [gb,eb];cases z:bestPair s j af (cut j p.1 p.2) (cut j q.1 q.2) with
  |none=>rfl
  |some r=>
   obtain ⟨a,k,m,rfl⟩:=nI z;have e1:pd s j af (p,some q)=a:=by unfold pd;rw [eb,z];rfl
   have e2:k1 s j af (p,some q)=k:=by unfold k1;rw [eb,z];rfl
   have e3:k2 s j af (p,some q)=m:=by unfold k2;rw [eb,z];rfl
   simp only [cY,hU,eC];by_cases g:(us.all λu=>(tJ s j af u).isSome)=true
   ·rw [if_pos g,if_pos g];simp only [bb,fe,bB,aP,e1];rw [show jV s j af (p,some q)= [(p,k1 s j af (p,some q),some q),(q,k2 s j af (p,some q),some p)] from rfl,e2,e3];rfl
   ·rw [if_neg g,if_neg g]
theorem He {l cs:List Span} (hp:l.Perm cs) (hs:l.Pairwise λa b=>a.1<=b.1) (hc:cs.Pairwise λa b=>a.1<b.1):l=cs:=by
 refine hp.eq_of_pairwise (le:=λa b:Span=>a.1<=b.1) (λa b ha hb h1 h2=>?_) hs (hc.imp λ{a b} h=>j1 h);have Wc:=hp.mem_iff.mp ha;have key: ∀{l:List Span},l.Pairwise (λa b=>a.1<b.1)->∀a∈l, ∀b∈l,a.1=b.1->a=b:=by
  intro l;induction l with
  |nil=>intro _ a ha;cases ha
  |cons x l ih=>
   intro hl a ha b hb e;obtain ⟨h1,h2⟩:=dg.mp hl;rcases aB.mp ha with q|q<;>rcases aB.mp hb with r|r
   ·rw [q,r]
   ·have:=h1 b r;rw [q] at e;omega
   ·have:=h1 a q;rw [r] at e;omega
   ·exact ih h2 a q b r e
 exact key hc a Wc b hb (by omega)
theorem kN (P:List (Span×Int×Option Span)):(uI P).Perm P:=Je _ _
theorem sB (P:List (Span×Int×Option Span)):((uI P).map (·.1)).Pairwise λa b=>a.1<=b.1:=by
 have hs:(uI P).Pairwise (λa b=>decide (a.1.1<=b.1.1)=true):=De (λa b c h k=>by simp at*;omega) (λa b=>by simp;omega) _;rw [dw];exact hs.imp λ{a b} h=>by simpa using h
theorem NG {s:State} {j:Journey} {af:Int} {M:Nat->Bool} {cs:List Span} {us:List Un} (c:ly M cs) (p:iW cs us):(uI (us.flatMap (jV s j af))).map (·.1)=cs:=by
 refine He ?_ (sB _) c.sorted;refine ((kN _).map _).trans ?_;rw [rJ];exact p.perm
theorem IF {α:Type} {P:List (Span×α)} (nd:(P.map (·.1)).Nodup) {x:Span×α} (hx:x∈P):P.find? (λy=>y.1==x.1)=some x:=by
 induction P with
 |nil=>cases hx
 |cons a P ih=>
  have nd:(a.1::P.map (·.1)).Nodup:=nd;obtain ⟨n1,n2⟩:=bj.mp nd;rcases aB.mp hx with rfl|hx
  ·rw [mV (by simp)]
  ·rw [iw,ih n2 hx];intro e;have e:a.1=x.1:=eq_of_beq e;exact n1 (by rw [e];exact aj.mpr ⟨x,hx,rfl⟩)
theorem NX {s:State} {j:Journey} {af:Int} {M:Nat->Bool} {cs:List Span} {us:List Un} (c:ly M cs) (p:iW cs us) (t:Int):
  rowOf cs (t,(us.flatMap (jV s j af)).map λy=>(y.1,y.2.1,Jg cs y.2.2))=t::(us.map cn).sum::pz s j af us:=by
 have ecs:=NG (s:=s) (j:=j) (af:=af) c p;have aaA:(cs.length:Int)=(us.map cn).sum:=by
  rw [<-p.perm.length_eq];clear ecs p c;induction us with
  |nil=>rfl
  |cons u us ih=>
   unfold JK at ih⊢;rw [bB,aK,bb,fe, <-ih];have:((Uu u).length:Int)=cn u:=by unfold Uu cn;cases u.2<;>rfl
   rw [<-this];omega
 unfold rowOf;rw [aaA];refine congrArg (λl=>t::(us.map cn).sum::l) ?_;unfold pz Nm;rw [ecs];let F:Span->List Int:=λc=>match ((us.flatMap (jV s j af)).map λy=>(y.1,y.2.1,Jg cs y.2.2)).find? λy=>y.1==c with
  |some y=> [(c.2:Int),y.2.1,y.2.2]
  |none=> []
 show cs.flatMap F=_;refine Eq.trans (congrArg (λds:List Span=>ds.flatMap F) ecs.symm) ?_;show ((uI (us.flatMap (jV s j af))).map (·.1)).flatMap F=_;rw [ux];refine cO λx hx=>?_;have hP:x∈us.flatMap (jV s j af):=(kN _).mem_iff.mp hx;have nd:((us.flatMap (jV s j af)).map (·.1)).Nodup:=by
  rw [rJ];exact p.perm.nodup_iff.mpr (yq c)
 have nd2:(((us.flatMap (jV s j af)).map λy=>(y.1,y.2.1,Jg cs y.2.2)).map (·.1)).Nodup:=by
  rw [bi];exact nd
 have hf:=IF nd2 (x:=(x.1,x.2.1,Jg cs x.2.2)) (aj.mpr ⟨x,hP,rfl⟩);show (match ((us.flatMap (jV s j af)).map λy=>(y.1,y.2.1,Jg cs y.2.2)).find? λy=>y.1==x.1 with
  |some y=> [(x.1.2:Int),y.2.1,y.2.2]
  |none=> [])=_
 rw [hf]
def uO (c:Span):Nat:=2^c.2-2^c.1
def d4 (u:Un):Nat:=match u.2 with
 |none=>uO u.1
 |some q=>uO u.1|||uO q
theorem lN {c:Span} (h:c.1<c.2) (x:Nat):(uO c).testBit x=i9 c x:=by
 unfold uO;have e:2^c.2-2^c.1=2^c.1*(2^(c.2-c.1)-1):=by
  rw [Nat.mul_sub, <-Nat.pow_add,Nat.mul_one]
  congr 2
  omega
 rw [e,Nat.testBit_two_pow_mul,yP];unfold i9;rw [bC];simp;omega
theorem Gj {u:Un} (h:IV u) (x:Nat):(d4 u).testBit x=mM u x:=by
 unfold d4 mM;cases e:u.2 with
 |none=>simp only [lN h.1,rc]
 |some q=>
  simp only [Au];rw [lN h.1,lN (h.2 q e).2]
structure jQ (s:State) (j:Journey) (af:Int) (al:Bool) (ch:Nat->List Un):Prop where
 mem: ∀i u,u∈ch i↔u.1.1=i/\IV u/\tm u<=j.segs.length/\(tJ s j af u).isSome=true/\(al=true->u.2=none)
 nd: ∀i,(ch i).Nodup
theorem jQ.ok {s:State} {j:Journey} {af:Int} {al:Bool} {ch:Nat->List Un} (C:jQ s j af al ch):sn ch d4:=
 ⟨λi u h=>((C.mem i u).mp h).1,λi u h=>((C.mem i u).mp h).2.1,λi u h x=>Gj ((C.mem i u).mp h).2.1 x,C.nd⟩
theorem Mr {u:Un} (h:IV u):mM u (tm u-1)=true/\1<=tm u:=by
 unfold mM tm;cases e:u.2 with
 |none=>
  have:=h.1;refine ⟨?_,by simp only;omega⟩;simp only [rc];exact cS.mpr ⟨by omega,by omega⟩
 |some q=>
  have:=(h.2 q e).2;refine ⟨?_,by simp only;omega⟩;simp only [wY];exact .inr (cS.mpr ⟨by omega,by omega⟩)
theorem AK: ∀{us:List Un} {M:Nat->Bool},Tiled M us->∀u∈us,IV u/\∀i,mM u i=true->M i=true
 | [],_,_,u,hu=>by cases hu
 |v::us,M,t,u,hu=>by
  obtain ⟨t1,t2,t3,t4⟩:=t;rcases aB.mp hu with rfl|hu
  ·exact ⟨t1,t3⟩
  ·obtain ⟨a,b⟩:=AK t4 u hu;exact ⟨a,λi hi=>by
    have:=b i hi;simp only [aU] at this;exact this.1⟩
theorem fh {us:List Un} {n:Nat} (t:Tiled (zl 0 n) us) {u:Un} (hu:u∈us):IV u/\tm u<=n:=by
 obtain ⟨a,b⟩:=AK t u hu;obtain ⟨c,d⟩:=Mr a;have:=(jn.mp (b _ c)).2;exact ⟨a,by omega⟩
theorem rX {j:Journey} {n i e:Nat} (h:e<=n):cut (firstOf j n) i e=cut j i e:=by
 unfold cut firstOf;simp only;rw [List.drop_take,List.take_take]
 congr 1
 omega
theorem oN {s:State} {j:Journey} {af:Int} {n:Nat} {u:Un} (ok:IV u) (h:tm u<=n):tJ s (firstOf j n) af u=tJ s j af u:=by
 unfold tJ;unfold tm at h;cases e:u.2 with
 |none=>
  rw [e] at h;simp only at h⊢;rw [rX h];rfl
 |some q=>
  rw [e] at h;have:=(ok.2 q e)
  simp only at h⊢;rw [rX h,rX (by omega)];rfl
theorem Hx {s:State} {j:Journey} {af:Int} {n:Nat} {u:Un} (ok:IV u) (h:tm u<=n):jV s (firstOf j n) af u=jV s j af u:=by
 unfold jV k1 k2;rw [oN ok h]
theorem ym {j:Journey} {n:Nat} (h:n<=j.segs.length):(firstOf j n).segs.length=n:=by
 unfold firstOf;simp only [bc];omega
theorem k5 (j:Journey):firstOf j j.segs.length=j:=by
 unfold firstOf;rw [bo]
theorem No {s:State} {j:Journey} {af:Int} {n:Nat} (hn:n<=j.segs.length) {us:List Un} (t:Tiled (zl 0 n) us):
  Jy (allSingles s (firstOf j n) af) (allPairs s (firstOf j n) af) us=if (us.all λu=>(tJ s j af u).isSome)=true then some (jl (pd s j af) cn us++pz s j af us) else none:=by
 obtain ⟨cs,c,p⟩:=t.Bw;unfold Jy;rw [JI c p,rL cs (j:=firstOf j n) λu hu=>by rw [ym hn];exact fh t hu];have e1:(us.all λu=>(tJ s (firstOf j n) af u).isSome)=us.all λu=>(tJ s j af u).isSome:=by
  rw [bC,bP,bP];constructor
  ·intro h u hu;rw [<-oN (fh t hu).1 (fh t hu).2];exact h u hu
  ·intro h u hu;rw [oN (fh t hu).1 (fh t hu).2];exact h u hu
 have e2:us.map (pd s (firstOf j n) af)=us.map (pd s j af):=bO λu hu=>by unfold pd;rw [oN (fh t hu).1 (fh t hu).2]
 have e3:us.flatMap (jV s (firstOf j n) af)=us.flatMap (jV s j af):=cO λu hu=>Hx (fh t hu).1 (fh t hu).2;rw [e1,e2,e3];by_cases g:(us.all λu=>(tJ s j af u).isSome)=true
 ·rw [if_pos g,if_pos g];simp only [cY];rw [NX c p];rfl
 ·rw [if_neg g,if_neg g];rfl
theorem l6 {α β:Type} {p:α->Bool} {f:α->β}: ∀{l:List α},(l.filterMap λa=>if p a=true then some (f a) else none)=(l.filter p).map f
 | []=>rfl
 |a::l=>by
  rw [cW,br];cases h:p a with
  |true=>rw [if_pos rfl,if_pos rfl,bb,l6]
  |false=>rw [if_neg aI,if_neg aI,l6]
theorem DY {s:State} {j:Journey} {af:Int} {ch:Nat->List Un} (C:jQ s j af false ch) (h8:j.segs.length<=8) {n:Nat} (hn:n<=j.segs.length):
  (rows s (firstOf j n) af).Perm ((T ch d4 (2^n-1)).map λus=>jl (pd s j af) cn us++pz s j af us):=by
 have hl:=ym hn;rw [NW s (firstOf j n) af (by omega),hl];have e:(tj n).filterMap (Jy (allSingles s (firstOf j n) af) (allPairs s (firstOf j n) af))=((tj n).filter λus=>us.all λu=>(tJ s j af u).isSome).map λus=>jl (pd s j af) cn us++pz s j af us:=by
  rw [<-l6];exact fk λus Dl=>No hn ((qC (by omega)).mp Dl)
 rw [e];refine Jq _ ?_;have hp:0<2^n:=eV n;have t:=pq C.ok (n:=n) (k:=2^n-1+1) (by omega) (by omega);refine iZ ?_ t.symm;refine i0 (iy λus Dl=>?_);have tl:=(qC (by omega)).mp Dl;rw [bC,bP,bP];constructor
 ·intro h u hu;obtain ⟨a,b⟩:=fh tl hu;exact decide_eq_true ((C.mem _ u).mpr ⟨rfl,a,by omega,h u hu,λz=>by cases z⟩)
 ·intro h u hu;exact ((C.mem _ u).mp (of_decide_eq_true (h u hu))).2.2.2.1
theorem pI {s:State} {j:Journey} {af:Int} {ch:Nat->List Un} (C:jQ s j af false ch) (h8:j.segs.length<=8) {n:Nat} (hn:n<=j.segs.length)
  (h:Sm ch d4 (pd s j af) cn (2^n-1)=none):price s (firstOf j n) af=none:=by
 unfold price;rw [iS (t:=(T ch d4 (2^n-1)).map λus=>jl (pd s j af) cn us++pz s j af us) λx=>(DY C h8 hn).mem_iff,dm,Gs.mp h];rfl
theorem pH {s:State} {j:Journey} {af:Int} {ch:Nat->List Un} (C:jQ s j af false ch) (h8:j.segs.length<=8) {n:Nat} (hn:n<=j.segs.length) {r t:List Int}
  (h:Sm ch d4 (pd s j af) cn (2^n-1)=some r) (ht:least ((Op ch d4 (pd s j af) cn (2^n-1)).map (pz s j af))=some t):price s (firstOf j n) af=some (r++t):=by
 unfold price;rw [iS (t:=(T ch d4 (2^n-1)).map λus=>jl (pd s j af) cn us++pz s j af us) λx=>(DY C h8 hn).mem_iff];exact BM _ h ht
theorem D1 {s:State} {j:Journey} {af:Int} {ch:Nat->List Un} (C:jQ s j af false ch) (h8:j.segs.length<=8) {n:Nat} (hn:n<=j.segs.length):
  (price s (firstOf j n) af).map (λr=>r.headD 0)=(Sm ch d4 (pd s j af) cn (2^n-1)).map λr=>r.headD 0:=by
 cases h:Sm ch d4 (pd s j af) cn (2^n-1) with
 |none=>rw [pI C h8 hn h]
 |some r=>
  obtain ⟨t,ht⟩:=vN (pz s j af) h;rw [pH C h8 hn h ht];obtain ⟨a,b,rfl⟩:=jN h;rfl
theorem O8 {s:State} {j:Journey} {af:Int} {ch:Nat->List Un} (C:jQ s j af false ch) (h8:j.segs.length<=8):(rows s j af).length=(T ch d4 (2^j.segs.length-1)).length:=by
 have:=(DY C h8 (ay _)).length_eq;rw [k5,ab] at this;exact this
end Lf
namespace Lf
open Vbahaf
def xf (l:List Int):Option Int:=l.foldl (λ(b:Option Int) x=>match b with
 |none=>some x
 |some y=>if x<y then some x else some y) none
theorem ug: ∀(l:List Int) (b:Option Int), ∃r,l.foldl (λ(b:Option Int) x=>match b with
 |none=>some x
 |some y=>if x<y then some x else some y) b=r/\(r=none↔l= []/\b=none)/\∀x,r=some x->((x∈l∨b=some x)/\(∀y∈l,x<=y)/\∀y,b=some y->x<=y)
 | [],b=>by
  refine ⟨b,rfl,by simp,λx h=>⟨.inr h,λy hy=>(by cases hy),λy hy=>?_⟩⟩;rw [h] at hy;cases hy;exact wX _
 |a::l,none=>by
  obtain ⟨r,h1,h2,h3⟩:=ug l (some a);refine ⟨r,h1,?_,λx hx=>?_⟩
  ·constructor
   ·intro z;have:=(h2.mp z).2;cases this
   ·intro z;cases z.1
  ·obtain ⟨p,q,t⟩:=h3 x hx;refine ⟨?_,λy hy=>?_,λy hy=>by cases hy⟩
   ·rcases p with p|p
    ·exact .inl (aE _ p)
    ·cases p;exact .inl aN
   ·rcases aB.mp hy with rfl|hy
    ·exact t _ rfl
    ·exact q y hy
 |a::l,some b=>by
  obtain ⟨r,h1,h2,h3⟩:=ug l (if a<b then some a else some b);refine ⟨r,h1,?_,λx hx=>?_⟩
  ·constructor
   ·intro z;have:=(h2.mp z).2;by_cases h:a<b
    ·rw [if_pos h] at this;cases this
    ·rw [if_neg h] at this;cases this
   ·intro z;cases z.1
  ·obtain ⟨p,q,t⟩:=h3 x hx;by_cases h:a<b
   ·rw [if_pos h] at p t;have ht:=t a rfl;refine ⟨?_,λy hy=>?_,λy hy=>?_⟩
    ·rcases p with p|p
     ·exact .inl (aE _ p)
     ·cases p;exact .inl aN
    ·rcases aB.mp hy with rfl|hy
     ·exact ht
     ·exact q y hy
    ·cases hy;omega
   ·rw [if_neg h] at p t;have ht:=t b rfl;refine ⟨?_,λy hy=>?_,λy hy=>?_⟩
    ·rcases p with p|p
     ·exact .inl (aE _ p)
     ·exact .inr p
    ·rcases aB.mp hy with rfl|hy
     ·omega
     ·exact q y hy
    ·cases hy;exact ht
theorem HK {l:List Int}:xf l=none↔l= []:=by
 obtain ⟨r,h1,h2,_⟩:=ug l none;unfold xf;rw [h1,h2];simp
theorem x4 {l:List Int} {x:Int}:xf l=some x↔x∈l/\∀y∈l,x<=y:=by
 obtain ⟨r,h1,h2,h3⟩:=ug l none;unfold xf;rw [h1];constructor
 ·intro h;obtain ⟨p,q,_⟩:=h3 x h;rcases p with p|p
  ·exact ⟨p,q⟩
  ·cases p
 ·intro ⟨p,q⟩;cases r with
  |none=>rw [(h2.mp rfl).1] at p;cases p
  |some z=>
   obtain ⟨p',q',_⟩:=h3 z rfl;rcases p' with p'|p'
   ·have:=q z p';have:=q' x p
    congr 1
    omega
   ·cases p'
theorem Ef {l t:List Int} (h: ∀x,x∈l↔x∈t):xf l=xf t:=by
 cases e:xf t with
 |none=>
  rw [HK] at e⊢;subst e;exact dJ.mpr λx hx=>by cases (h x).mp hx
 |some r=>
  rw [x4] at e⊢;exact ⟨(h r).mpr e.1,λx hx=>e.2 x ((h x).mp hx)⟩
theorem Er {L:List (List Int)} (h: ∀r∈L, ∃a b,r= [a,b]):(least L).map (λr=>r.headD 0)=xf (L.map λr=>r.headD 0):=by
 cases e:least L with
 |none=>
  rw [dm] at e;subst e;rfl
 |some r=>
  obtain ⟨h1,h2⟩:=cq.mp e;symm;show _=some (r.headD 0);rw [x4];refine ⟨aj.mpr ⟨r,h1,rfl⟩,λy hy=>?_⟩;obtain ⟨x,hx,rfl⟩:=aj.mp hy;obtain ⟨a,b,rfl⟩:=h r h1;obtain ⟨c,d,rfl⟩:=h x hx;have:=h2 _ hx;show a<=c;rcases Int.lt_or_le c a with z|z
  ·have:rowLess [c,d] [a,b]=true:=df.mpr (.inl z)
   simp_all
  ·exact z
theorem BH {n i e:Nat} (h1:i<=e) (h2:e<=n):2^n-2^i-(2^e-2^i)=2^n-2^e:=by
 have a:2^i<=2^e:=dS (by decide) h1;have b:2^e<=2^n:=dS (by decide) h2;omega
theorem BJ {i n:Nat} (h:i<n):low (2^n-2^i)=i:=by
 have hb:=λx=>lN (c:=(i,n)) h x;have fZ:2^n-2^i≠0:=by
  have:2^i<2^n:=jr (by decide) h;omega
 refine (ni fZ).unique ⟨?_,λx hx=>?_⟩
 ·have:=hb i;unfold uO at this;rw [this];exact cS.mpr ⟨ay _,h⟩
 ·have:=hb x;unfold uO at this;rw [this];exact gp.mpr λz=>by have:=z.1;simp only at this;omega
theorem Ae {s:State} {j:Journey} {af:Int} {ch:Nat->List Un} (C:jQ s j af true ch): ∀{k i:Nat},i<=j.segs.length->j.segs.length-i<k->
  alone (allSingles s j af) j.segs.length k i=(Sm ch d4 (pd s j af) cn (2^j.segs.length-2^i)).map λr=>r.headD 0
 |0,i,_,h=>absurd h (dZ _)
 |k+1,i,hi,h=>by
  unfold alone;by_cases hn:j.segs.length<=i
  ·rw [if_pos hn];have:i=j.segs.length:=by omega
   subst this;rw [tT,Ai];rfl
  ·rw [if_neg hn];have Ih:i<j.segs.length:=by omega
   have fZ:2^j.segs.length-2^i≠0:=by
    have:2^i<2^j.segs.length:=jr (by decide) Ih;omega
   rw [Gr C.ok fZ,Er]
   ·show xf _=xf _;refine Ef λx=>?_;constructor
    ·intro hx;obtain ⟨e,he,hx⟩:=bU.mp hx;obtain ⟨XC,R3⟩:=au.mp he;have XC:=bE.mp XC;have R3:i<e:=by simpa using R3
     rw [nA (c:=(i,e)) R3 (by omega:e<=_),Ae C (k:=k) (i:=e) (by omega) (by omega)] at hx;cases q:bestSingle s j af (cut j i e) with
     |none=>simp only [q] at hx;cases hx
     |some r=>
      obtain ⟨a,ky,rfl⟩:=gD q;cases z:Sm ch d4 (pd s j af) cn (2^j.segs.length-2^e) with
      |none=>simp only [q,z] at hx;cases hx
      |some t=>
       obtain ⟨b,c,rfl⟩:=jN z;simp only [q,z] at hx;have hx:some (a+b)=some x:=hx;cases hx;have eb:tJ s j af ((i,e),none)=some [a,ky]:=q;have hu:((i,e),none)∈ch i:=(C.mem i _).mpr ⟨rfl,⟨R3,λq z=>by cases z⟩,by show e<=_;omega,by rw [eb];rfl,λ_=>rfl⟩;have hw:((i,e),none)∈ji ch d4 (2^j.segs.length-2^i):=by
        unfold ji;rw [BJ Ih];refine au.mpr ⟨hu,decide_eq_true (ka.mpr λx hx=>?_)⟩;rw [Gj ⟨R3,λq z=>by cases z⟩] at hx;have:=lN (c:=(i,j.segs.length)) Ih x;unfold uO at this;rw [this];unfold mM at hx;simp only [rc] at hx;have hx:=cS.mp hx;exact cS.mpr ⟨hx.1,bu hx.2 (by show e<=_;omega)⟩
       refine aj.mpr ⟨jM a 1 [b,c],bU.mpr ⟨((i,e),none),hw,?_⟩,?_⟩
       ·show (Sm ch d4 (pd s j af) cn (2^j.segs.length-2^i-(2^e-2^i))).map _=_;rw [BH (by omega) (by omega),z];have:pd s j af ((i,e),none)=a:=by unfold pd;rw [eb];rfl
        rw [this];rfl
       ·show b+a=a+b;exact tX _ _
    ·intro hx;obtain ⟨r,hr,rfl⟩:=aj.mp hx;obtain ⟨u,hu,hr⟩:=bU.mp hr;unfold ji at hu;rw [BJ Ih] at hu;obtain ⟨hu,_⟩:=au.mp hu;obtain ⟨m1,m2,m3,m4,m5⟩:=(C.mem i u).mp hu;obtain ⟨⟨i',e⟩,o⟩:=u;have m5:o=none:=m5 rfl;have m1:i'=i:=m1;subst m5 m1;have m3:e<=j.segs.length:=m3;have m2':i'<e:=m2.1;have hr:(Sm ch d4 (pd s j af) cn (2^j.segs.length-2^i'-(2^e-2^i'))).map (jM (pd s j af ((i',e),none)) (cn ((i',e),none)))=some r:=hr;rw [BH (by omega) (by omega)] at hr;refine bU.mpr ⟨e,au.mpr ⟨bE.mpr (by omega),by simpa using m2'⟩,?_⟩;rw [nA (c:=(i',e)) m2' m3,Ae C (k:=k) (i:=e) (by omega) (by omega)];have eb:tJ s j af ((i',e),none)=bestSingle s j af (cut j i' e):=rfl;rw [eb] at m4;cases q:bestSingle s j af (cut j i' e) with
     |none=>rw [q] at m4;cases m4
     |some t=>
      obtain ⟨a,ky,rfl⟩:=gD q;have:pd s j af ((i',e),none)=a:=by unfold pd;rw [eb,q];rfl
      rw [this] at hr;cases z:Sm ch d4 (pd s j af) cn (2^j.segs.length-2^e) with
      |none=>rw [z] at hr;cases hr
      |some t=>
       obtain ⟨b,c,rfl⟩:=jN z;rw [z] at hr;have hr:some (jM a 1 [b,c])=some r:=hr;cases hr;show some (a+b)=some (b+a);rw [tX]
   ·intro r hr;obtain ⟨u,_,hr⟩:=bU.mp hr;cases z:Sm ch d4 (pd s j af) cn (2^j.segs.length-2^i-d4 u) with
    |none=>rw [z] at hr;cases hr
    |some t=>
     obtain ⟨b,c,rfl⟩:=jN z;rw [z] at hr;cases hr;exact ⟨_,_,rfl⟩
theorem ku: ∀(l:List Int) (a:Int),a<=greatest a l/\(∀y∈l,y<=greatest a l)/\(greatest a l=a∨greatest a l∈l)
 | [],a=>⟨wX _,λy hy=>(by cases hy), .inl rfl⟩
 |x::l,a=>by
  have e:greatest a (x::l)=greatest (if a<=x then x else a) l:=rfl;rw [e];by_cases h:a<=x
  ·rw [if_pos h];obtain ⟨p,q,r⟩:=ku l x;refine ⟨by omega,λy hy=>?_,?_⟩
   ·rcases aB.mp hy with rfl|hy
    ·exact p
    ·exact q y hy
   ·rcases r with r|r
    ·exact .inr (by rw [r];exact aN)
    ·exact .inr (aE _ r)
  ·rw [if_neg h];obtain ⟨p,q,r⟩:=ku l a;refine ⟨p,λy hy=>?_,?_⟩
   ·rcases aB.mp hy with rfl|hy
    ·omega
    ·exact q y hy
   ·rcases r with r|r
    ·exact .inl r
    ·exact .inr (aE _ r)
theorem lV {s:State} {v:Int}: ∀{m8:List Int},v∈floorsIn s m8↔∃(i k:Nat) (x y:Int),i<k/\m8[i]?=some x/\m8[k]?=some y/\(x,y,v)∈s.floors
 | []=>by
  constructor
  ·intro h;cases h
  ·rintro ⟨i,k,x,y,_,h,_⟩;simp at h
 |p::m8=>by
  unfold floorsIn;rw [bF,lV];constructor
  ·rintro (h|⟨i,k,x,y,h1,h2,h3,h4⟩)
   ·obtain ⟨⟨a,b,c⟩,hz,rfl⟩:=aj.mp h;obtain ⟨z1,z2⟩:=au.mp hz;simp only [aU,decide_eq_true_eq,eL] at z2;obtain ⟨rfl,z2⟩:=z2;obtain ⟨k,hk⟩:=gG z2;exact ⟨0,k+1,a,b,by omega,rfl,by simpa using hk,z1⟩
   ·exact ⟨i+1,k+1,x,y,by omega,by simpa using h2,by simpa using h3,h4⟩
  ·rintro ⟨i,k,x,y,h1,h2,h3,h4⟩;cases i with
   |zero=>
    left;have e:p=x:=by simpa using h2
    subst e;cases k with
    |zero=>omega
    |succ k=>
     have h3:m8[k]?=some y:=by simpa using h3
     refine aj.mpr ⟨(p,y,v),au.mpr ⟨h4,?_⟩,rfl⟩;simp only [aU,decide_eq_true_eq,eL];exact ⟨trivial,aH h3⟩
   |succ i=>
    right;cases k with
    |zero=>omega
    |succ k=>exact ⟨i,k,x,y,by omega,by simpa using h2,by simpa using h3,h4⟩
def EH (s:State) (x y:Int):Int:=match s.floors.find? λz=>decide (z.1=x)&&decide (z.2.1=y) with
 |some z=>z.2.2
 |none=>0
def uo (s:State) (m8:List Int) (v:Int):Prop:=
 0<=v/\(∀(i k:Nat) (x y:Int),i<k->m8[i]?=some x->m8[k]?=some y->EH s x y<=v)/\(v=0∨∃(i k:Nat) (x y:Int),i<k/\m8[i]?=some x/\m8[k]?=some y/\v=EH s x y)
theorem Cc {s:State} (ok:kE s) {x y v:Int} (h:(x,y,v)∈s.floors):EH s x y=v:=by
 unfold EH;have nd:=ok.os;cases q:s.floors.find? λz=>decide (z.1=x)&&decide (z.2.1=y) with
 |none=>
  have:=dI.mp q _ h;simp at this
 |some z=>
  have hz:=fY q;have hm:=cV q;simp only [aU,decide_eq_true_eq] at hz;obtain ⟨a,b,c⟩:=z;simp only at hz;obtain ⟨rfl,rfl⟩:=hz;have e:=iE nd _ hm _ h (by rfl);simp only [gQ,true_and] at e;exact e
theorem LY {s:State} {x y:Int} (h: ∀v,(x,y,v)∉s.floors):EH s x y=0:=by
 unfold EH;cases q:s.floors.find? λz=>decide (z.1=x)&&decide (z.2.1=y) with
 |none=>rfl
 |some z=>
  have hz:=fY q;have hm:=cV q;simp only [aU,decide_eq_true_eq] at hz;obtain ⟨a,b,c⟩:=z;simp only at hz;obtain ⟨rfl,rfl⟩:=hz;exact absurd hm (h c)
theorem OX {s:State} {x y:Int}:EH s x y=0∨(x,y,EH s x y)∈s.floors:=by
 unfold EH;cases q:s.floors.find? λz=>decide (z.1=x)&&decide (z.2.1=y) with
 |none=>exact .inl rfl
 |some z=>
  right;have hz:=fY q;have hm:=cV q;simp only [aU,decide_eq_true_eq] at hz;obtain ⟨a,b,c⟩:=z;simp only at hz;obtain ⟨rfl,rfl⟩:=hz;exact hm
theorem jI {s:State} (ok:kE s) {m8:List Int} {v a:Int} (ha:0<=a) (h:uo s m8 v):greatest a (floorsIn s m8)=if v>a then v else a:=by
 obtain ⟨h0,h1,h2⟩:=h;obtain ⟨g1,g2,g3⟩:=ku (floorsIn s m8) a;have up:greatest a (floorsIn s m8)<=if v>a then v else a:=by
  rcases g3 with g|g
  ·rw [g];split<;>omega
  ·obtain ⟨i,k,x,y,l,e1,e2,m⟩:=lV.mp g;have:=h1 i k x y l e1 e2;rw [Cc ok m] at this;split<;>omega
 have lo:(if v>a then v else a)<=greatest a (floorsIn s m8):=by
  by_cases z:v>a
  ·rw [if_pos z];rcases h2 with h2|⟨i,k,x,y,l,e1,e2,e3⟩
   ·omega
   ·rcases OX (s:=s) (x:=x) (y:=y) with f|f
    ·omega
    ·rw [e3];exact g2 _ (lV.mpr ⟨i,k,x,y,l,e1,e2,f⟩)
  ·rw [if_neg z];exact g1
 omega
end Lf
namespace Lf
open Vbahaf
theorem BO {F G:List (List Int)} (h1: ∀x∈F,x∈G) (h2: ∀x∈G, ∃y∈F,rowLess x y=false):least F=least G:=by
 cases e:least F with
 |none=>
  rw [dm] at e;subst e;symm;rw [dm];exact dJ.mpr λx hx=>by obtain ⟨y,hy,_⟩:=h2 x hx;cases hy
 |some r=>
  symm;rw [cq];obtain ⟨a,b⟩:=cq.mp e;refine ⟨h1 r a,λx hx=>?_⟩;obtain ⟨y,hy,l⟩:=h2 x hx;exact iR (b y hy) l
theorem vD (l:List (List Int)) (r:List Int):least (l++ [r])=match least l with
 |none=>some r
 |some y=>if rowLess r y=true then some r else some y:=by
 unfold least;rw [MS];rfl
def rowsOf (A:List (Int×Int×Int)) (g:Int):List (List Int):=(A.filter λx=>decide (x.1=g)).map λx=> [x.2.1,x.2.2]
theorem vw {A:List (Int×Int×Int)} {g a k:Int}: [a,k]∈rowsOf A g↔(g,a,k)∈A:=by
 unfold rowsOf;constructor
 ·intro h;obtain ⟨⟨x,y,z⟩,hx,e⟩:=aj.mp h;obtain ⟨h1,h2⟩:=au.mp hx;have h2:x=g:=by simpa using h2
  simp only [eJ,and_true] at e;obtain ⟨rfl,rfl⟩:=e;subst h2;exact h1
 ·intro h;exact aj.mpr ⟨_,au.mpr ⟨h,by simp⟩,rfl⟩
theorem sC {A:List (Int×Int×Int)} {g a k g':Int}:rowsOf (A++ [(g,a,k)]) g'=if g=g' then rowsOf A g'++ [[a,k]] else rowsOf A g':=by
 unfold rowsOf;rw [cD,aP];by_cases h:g=g'
 ·rw [if_pos h,br,if_pos (by simpa using h)];rfl
 ·rw [if_neg h,br,if_neg (by simpa using h)];simp
theorem QL {a b a' b':Int} (h:rowLess [a,b] [a',b']=false):a'<a∨(a'=a/\b'<=b):=by
 have: ¬(a<a'∨(a=a'/\rowLess [b] [b']=true)):=λz=>by
  have:=df.mpr z;rw [h] at this;cases this
 rw [df] at this;simp only [fP,bM,and_false,or_false] at this;omega
theorem zC {A B GA GB:List (Int×Int×Int)} {R:Int->Int->Bool} (hA: ∀g a k,(g,a,k)∈GA↔least (rowsOf A g)=some [a,k]) (hB: ∀g a k,(g,a,k)∈GB↔least (rowsOf B g)=some [a,k]):
  least (GA.flatMap λx=>(GB.filter λy=>R x.1 y.1).map λy=> [x.2.1+y.2.1,x.2.2,y.2.2])=least (A.flatMap λx=>(B.filter λy=>R x.1 y.1).map λy=> [x.2.1+y.2.1,x.2.2,y.2.2]):=by
 have sub: ∀{A GA:List (Int×Int×Int)},(∀g a k,(g,a,k)∈GA↔least (rowsOf A g)=some [a,k])->∀x∈GA,x∈A:=λ{A GA} h x hx=>by
  obtain ⟨g,a,k⟩:=x;exact vw.mp (cq.mp ((h g a k).mp hx)).1
 have den: ∀{A GA:List (Int×Int×Int)},(∀g a k,(g,a,k)∈GA↔least (rowsOf A g)=some [a,k])->∀x∈A, ∃y∈GA,y.1=x.1/\(y.2.1<x.2.1∨(y.2.1=x.2.1/\y.2.2<=x.2.2)):=λ{A GA} h x hx=>by
  obtain ⟨g,a,k⟩:=x;have m:=vw.mpr hx;cases q:least (rowsOf A g) with
  |none=>rw [dm] at q;rw [q] at m;cases m
  |some r=>
   obtain ⟨m1,m2⟩:=cq.mp q;obtain ⟨⟨g',a',k'⟩,hz,rfl⟩:=aj.mp m1;exact ⟨(g,a',k'),(h g a' k').mpr q,rfl,QL (m2 _ m)⟩
 refine BO (λx hx=>?_) λx hx=>?_
 ·obtain ⟨u,hu,hx⟩:=aW.mp hx;obtain ⟨v,hv,rfl⟩:=aj.mp hx;obtain ⟨ZH,ZG⟩:=au.mp hv;exact aW.mpr ⟨u,sub hA u hu,aj.mpr ⟨v,au.mpr ⟨sub hB v ZH,ZG⟩,rfl⟩⟩
 ·obtain ⟨u,hu,hx⟩:=aW.mp hx;obtain ⟨v,hv,rfl⟩:=aj.mp hx;obtain ⟨ZH,ZG⟩:=au.mp hv;obtain ⟨u',hu',eu,lu⟩:=den hA u hu;obtain ⟨v',Ti,ev,lv⟩:=den hB v ZH;refine ⟨_,aW.mpr ⟨u',hu',aj.mpr ⟨v',au.mpr ⟨Ti,by rw [eu,ev];exact ZG⟩,rfl⟩⟩,?_⟩;cases z:rowLess [u.2.1+v.2.1,u.2.2,v.2.2] [u'.2.1+v'.2.1,u'.2.2,v'.2.2] with
  |false=>rfl
  |true=>
   rw [df,df,df] at z;simp only [fP,bM,and_false,or_false] at z;omega
theorem BU (x:List Int) (l:List (List Int)):((l.takeWhile λy=>rowLess y x)++x::(l.dropWhile λy=>rowLess y x)).Perm (x::l):=by
 refine i6.trans (mR x ?_);rw [List.takeWhile_append_dropWhile]
theorem vL (x:List Int): ∀{l:List (List Int)},l.Pairwise (λa b=>rowLess b a=false)->((l.takeWhile λy=>rowLess y x)++x::(l.dropWhile λy=>rowLess y x)).Pairwise (λa b=>rowLess b a=false)
 | [],_=>by simp
 |y::l,h=>by
  obtain ⟨h1,h2⟩:=dg.mp h;rw [List.takeWhile_cons,List.dropWhile_cons];cases q:rowLess y x with
  |true=>
   simp only [if_true];show (y::((l.takeWhile λy=>rowLess y x)++x::(l.dropWhile λy=>rowLess y x))).Pairwise _;refine dg.mpr ⟨λz hz=>?_,vL x h2⟩;rcases aB.mp ((BU x l).mem_iff.mp hz) with rfl|hz
   ·exact u9 q
   ·exact h1 z hz
  |false=>
   simp only [bM,if_false];show (x::y::l).Pairwise _;refine dg.mpr ⟨λz hz=>?_,h⟩;rcases aB.mp hz with rfl|hz
   ·exact q
   ·exact iR q (h1 z hz)
theorem gC: ∀(l:List (List Int)),(pairsSorted l).Perm l
 | []=>mP _
 |x::l=>(BU x (pairsSorted l)).trans ((gC l).cons x)
theorem jF: ∀(l:List (List Int)),(pairsSorted l).Pairwise (λa b=>rowLess b a=false)
 | []=>W6
 |x::l=>vL x (jF l)
theorem AV {l t:List (List Int)} (hp:l.Perm t) (h:l.Pairwise λa b=>rowLess b a=false):l=pairsSorted t:=by
 refine (hp.trans (gC t).symm).eq_of_pairwise (le:=λa b=>rowLess b a=false) (λa b _ _ h1 h2=>jC h2 h1) h (jF t)
theorem Br {s:State} {fl:List Fare} (h:fl.Perm s.fares) (j:Journey) (af:Int) (c:Comp):
  bestSingle s j af c=least ((fl.filter λf=>single j af f c).map λf=> [pay s af f c,f.key]):=by
 unfold bestSingle;exact iS λx=>(((h.filter _).map _).mem_iff).symm
def Ends (p q:Comp):Option Int:=if srcOf p=dstOf q/\dstOf p=srcOf q then some 0 else if srcOf p=dstOf q then some 1 else if dstOf p=srcOf q then some 2 else none
def allow (n fS:Int) (f:Fare):Bool:=(n==0||(n==1&&bitOf f.open_ 0)||(n==2&&bitOf f.open_ 1))&&(decide (f.leastStay<=fS)&&decide (fS<=f.mostStay))
theorem j3 (s:State) (f g:Fare) (p q:Comp):together s f g p q=match Ends p q with
 |none=>false
 |some n=>allow n (dayOf q-dayOf p) f&&(allow n (dayOf q-dayOf p) g&&s.combos.contains (f.group,g.group)):=by
 unfold together Ends allow;by_cases h1:srcOf p=dstOf q<;>by_cases h2:dstOf p=srcOf q<;>simp only [h1,h2,and_self,and_true,and_false,if_true,if_false,decide_true,decide_false] <;>
  (generalize bitOf f.open_ 0=b1;generalize bitOf g.open_ 0=b2;generalize bitOf f.open_ 1=b3;generalize bitOf g.open_ 1=b4;generalize s.combos.contains (f.group,g.group)=b5;generalize decide (f.leastStay<=dayOf q-dayOf p)=b6;generalize decide (g.leastStay<=dayOf q-dayOf p)=b7;generalize decide (dayOf q-dayOf p<=f.mostStay)=b8;generalize decide (dayOf q-dayOf p<=g.mostStay)=b9;revert b1 b2 b3 b4 b5 b6 b7 b8 b9;decide+kernel)
def side (s:State) (af:Int) (c:Comp) (n fS:Int) (fs:List Fare):List (Int×Int×Int):=(fs.filter (allow n fS)).map λf=>(f.group,pay s af f c,f.key)
theorem xr {s:State} {fl:List Fare} (h:fl.Perm s.fares) (j:Journey) (af:Int) (p q:Comp):bestPair s j af p q=match Ends p q with
 |none=>none
 |some n=>least ((side s af p n (dayOf q-dayOf p) (fl.filter λf=>outward j af f p)).flatMap λx=>
   ((side s af q n (dayOf q-dayOf p) (fl.filter λf=>homeward j af f q)).filter λy=>s.combos.contains (x.1,y.1)).map λy=> [x.2.1+y.2.1,x.2.2,y.2.2]):=by
 unfold bestPair;cases e:Ends p q with
 |none=>
  simp only;rw [dm];refine dJ.mpr λx hx=>?_;obtain ⟨f,hf,hx⟩:=aW.mp hx;obtain ⟨g,hg,rfl⟩:=aj.mp hx;have:=(au.mp hg).2;rw [j3,e] at this;cases this
 |some n=>
  simp only;refine iS λx=>?_;constructor
  ·intro hx;obtain ⟨f,hf,hx⟩:=aW.mp hx;obtain ⟨⟨g,z⟩,hg,rfl⟩:=aj.mp hx;obtain ⟨V2,OC⟩:=au.mp hg;obtain ⟨g',hg',eg⟩:=aj.mp V2;cases eg;obtain ⟨R1,Jj⟩:=au.mp hf;obtain ⟨hg3,hg4⟩:=au.mp hg';rw [j3,e] at OC;simp only [aU] at OC;refine aW.mpr ⟨(f.group,pay s af f p,f.key),aj.mpr ⟨f,au.mpr ⟨au.mpr ⟨h.mem_iff.mpr R1,Jj⟩,OC.1⟩,rfl⟩,?_⟩;refine aj.mpr ⟨(g.group,pay s af g q,g.key),au.mpr ⟨aj.mpr ⟨g,au.mpr ⟨au.mpr ⟨h.mem_iff.mpr hg3,hg4⟩,OC.2.1⟩,rfl⟩,OC.2.2⟩,rfl⟩
  ·intro hx;obtain ⟨x,Zx,hx⟩:=aW.mp hx;obtain ⟨y,Zv,rfl⟩:=aj.mp hx;obtain ⟨f,hf,rfl⟩:=aj.mp Zx;obtain ⟨Zv,hy2⟩:=au.mp Zv;obtain ⟨g,hg,rfl⟩:=aj.mp Zv;obtain ⟨R1,Jj⟩:=au.mp hf;obtain ⟨hf3,hf4⟩:=au.mp R1;obtain ⟨V2,OC⟩:=au.mp hg;obtain ⟨hg3,hg4⟩:=au.mp V2;refine aW.mpr ⟨f,au.mpr ⟨h.mem_iff.mp hf3,hf4⟩,aj.mpr ⟨(g,pay s af g q),au.mpr ⟨aj.mpr ⟨g,au.mpr ⟨h.mem_iff.mp hg3,hg4⟩,rfl⟩,?_⟩,rfl⟩⟩;rw [j3,e];simp only [aU];exact ⟨Jj,OC,hy2⟩
end Lf
namespace Lf
open PyVbahaf
inductive mh:List Int->Int->List Int->Option (List Int)->List Int->Prop
 |plain {p n nums rest}:shape p=some (n,0)->nums.length=n->mh (p::(nums++rest)) p nums none rest
 |J8 {p n nums row rest}:shape p=some (n,1)->nums.length=n->mh (p::(nums++((row.length:Int)::(row++rest)))) p nums (some row) rest
def cx (p:Int) (nums:List Int):Option (List Int)->List (List Int)
 |none=> [p::nums]
 |some row=> [p::nums,row]
theorem ifs {c:Prop} [Decidable c] {α:Type} {x y r:α} {C:Prop} (h:(if c then x else y)=r) (h1:c->x=r->C) (h2:y=r->C):C:=by
 by_cases e:c
 ·rw [if_pos e] at h;exact h1 e h
 ·rw [if_neg e] at h;exact h2 h
theorem sm {a b n k:Nat} (h:some (a,b)=some (n,k)):n=a/\k=b:=by
 cases h;exact ⟨rfl,rfl⟩
inductive Pl (p:Int) (n k:Nat):Prop
 |p0:p=0->n=15->k=0->Pl p n k
 |p1:p=1->n=1->k=0->Pl p n k
 |p2:p=2->n=3->k=0->Pl p n k
 |p3:p=3->n=3->k=0->Pl p n k
 |p4:p=4->n=2->k=0->Pl p n k
 |p5:p=5->n=2->k=0->Pl p n k
 |p6:p=6->n=1->k=0->Pl p n k
 |p7:p=7->n=1->k=1->Pl p n k
 |p8:p=8->n=1->k=0->Pl p n k
 |p9:p=9->n=0->k=1->Pl p n k
 |p10:p=10->n=3->k=0->Pl p n k
 |p11:p=11->n=5->k=0->Pl p n k
 |p12:p=12->n=1->k=1->Pl p n k
 |p13:p=13->n=1->k=0->Pl p n k
 |p14:p=14->n=1->k=0->Pl p n k
 |p15:p=15->n=1->k=0->Pl p n k
 |p16:p=16->n=0->k=0->Pl p n k
 |p17:p=17->n=0->k=0->Pl p n k
theorem gw {p:Int} {n k:Nat} (h:shape p=some (n,k)):Pl p n k:=by
 unfold shape at h;refine ifs h (λe h=> .p0 e (sm h).1 (sm h).2) λh=>?_;refine ifs h (λe h=> .p1 e (sm h).1 (sm h).2) λh=>?_;refine ifs h (λe h=> .p2 e (sm h).1 (sm h).2) λh=>?_;refine ifs h (λe h=> .p3 e (sm h).1 (sm h).2) λh=>?_;refine ifs h (λe h=> .p4 e (sm h).1 (sm h).2) λh=>?_;refine ifs h (λe h=> .p5 e (sm h).1 (sm h).2) λh=>?_;refine ifs h (λe h=> .p6 e (sm h).1 (sm h).2) λh=>?_;refine ifs h (λe h=> .p7 e (sm h).1 (sm h).2) λh=>?_;refine ifs h (λe h=> .p8 e (sm h).1 (sm h).2) λh=>?_;refine ifs h (λe h=> .p9 e (sm h).1 (sm h).2) λh=>?_;refine ifs h (λe h=> .p10 e (sm h).1 (sm h).2) λh=>?_;refine ifs h (λe h=> .p11 e (sm h).1 (sm h).2) λh=>?_;refine ifs h (λe h=> .p12 e (sm h).1 (sm h).2) λh=>?_;refine ifs h (λe h=> .p13 e (sm h).1 (sm h).2) λh=>?_;refine ifs h (λe h=> .p14 e (sm h).1 (sm h).2) λh=>?_;refine ifs h (λe h=> .p15 e (sm h).1 (sm h).2) λh=>?_;refine ifs h (λe h=> .p16 e (sm h).1 (sm h).2) λh=>?_;refine ifs h (λe h=> .p17 e (sm h).1 (sm h).2) λh=>?_;cases h
theorem NI {p:Int} {n k:Nat} (h:shape p=some (n,k)):k=0∨k=1:=by
 rcases gw h with ⟨_,_,e⟩|⟨_,_,e⟩|⟨_,_,e⟩|⟨_,_,e⟩|⟨_,_,e⟩|⟨_,_,e⟩|⟨_,_,e⟩|⟨_,_,e⟩|⟨_,_,e⟩|⟨_,_,e⟩|⟨_,_,e⟩|⟨_,_,e⟩|⟨_,_,e⟩|⟨_,_,e⟩|⟨_,_,e⟩|⟨_,_,e⟩|⟨_,_,e⟩|⟨_,_,e⟩<;>omega
theorem Pd {l:List Int} {c:List (List Int)} {t:List Int} (h:Dz shape l=some (c,t)): ∃p nums row,mh l p nums row t/\c=cx p nums row:=by
 cases l with
 |nil=>cases h
 |cons p r=>
  unfold Dz at h;dsimp only at h;cases hs:shape p with
  |none=>rw [hs] at h;cases h
  |some nk=>
   obtain ⟨n,k⟩:=nk;rw [hs] at h;simp only at h;by_cases hl:r.length<n
   ·rw [if_pos hl] at h;cases h
   ·rw [if_neg hl] at h;have hn:(r.take n).length=n:=by rw [bc];omega
    rcases NI hs with rfl|rfl
    ·unfold Dy at h;simp only [fJ,gQ] at h;obtain ⟨rfl,rfl⟩:=h;refine ⟨p,r.take n,none,?_,rfl⟩;have:=mh.plain (rest:=r.drop n) hs hn;rw [oQ] at this;exact this
    ·unfold Dy at h;cases hr:TV (r.drop n) with
     |none=>rw [hr] at h;cases h
     |some xt=>
      obtain ⟨x,u⟩:=xt;rw [hr] at h;unfold Dy at h;simp only [fJ,gQ] at h;obtain ⟨rfl,rfl⟩:=h;cases hd:r.drop n with
      |nil=>rw [hd] at hr;cases hr
      |cons m q=>
       rw [hd] at hr;unfold TV at hr;dsimp only at hr;by_cases hm:0<=m/\m.toNat<=q.length
       ·rw [if_pos hm] at hr;simp only [fJ,gQ] at hr;obtain ⟨rfl,rfl⟩:=hr;refine ⟨p,r.take n,some (q.take m.toNat),?_,rfl⟩;have:=mh.J8 (row:=q.take m.toNat) (rest:=q.drop m.toNat) hs hn;have e:((q.take m.toNat).length:Int)=m:=by rw [bc];omega
        rw [e,oQ, <-hd,oQ] at this;exact this
       ·rw [if_neg hm] at hr;cases hr
theorem mh.shp {l:List Int} {p:Int} {ns:List Int} {row:Option (List Int)} {rest:List Int} (h:mh l p ns row rest):shape p=some (ns.length,if row.isSome=true then 1 else 0):=by
 cases h with
 |plain h1 h2=>rw [h2];exact h1
 |J8 h1 h2=>rw [h2];exact h1
theorem Zl {l:List Int} {n:Nat} (h:l.length=n+1): ∃a t,l=a::t/\t.length=n:=by
 cases l with
 |nil=>cases h
 |cons a t=>exact ⟨a,t,rfl,yQ h⟩
theorem Ka {u:List Int} (h:nZ u=true):u.length<=1000:=by
 unfold nZ at h;rw [aU,decide_eq_true_eq] at h;omega
theorem J9 {b:Bool} {u:List Int} (h:(b&&nZ u)=true):u.length<=1000:=Ka (ph.mp h).2
theorem Pc {p:Int} {ns:List Int} {row:Option (List Int)} (h:shape p=some (ns.length,if row.isSome=true then 1 else 0)):whole (cx p ns row)=cx p ns row/\(fN (cx p ns row)=true->∀r∈cx p ns row,r.length<=1000):=by
 cases row with
 |none=>
  have k:ns.length<=15->fN (cx p ns none)=true->∀r∈cx p ns none,r.length<=1000:=λe _ r hr=>by
   rw [aR.mp hr,aS];omega
  rcases gw h with ⟨rfl,e,z⟩|⟨rfl,e,z⟩|⟨rfl,e,z⟩|⟨rfl,e,z⟩|⟨rfl,e,z⟩|⟨rfl,e,z⟩|⟨rfl,e,z⟩|⟨rfl,e,z⟩|⟨rfl,e,z⟩|⟨rfl,e,z⟩|⟨rfl,e,z⟩|⟨rfl,e,z⟩|⟨rfl,e,z⟩|⟨rfl,e,z⟩|⟨rfl,e,z⟩|⟨rfl,e,z⟩|⟨rfl,e,z⟩|⟨rfl,e,z⟩
  all_goals refine ⟨?_,k (by omega)⟩
  all_goals clear k h
  all_goals first
   |(cases z;done)
   |(clear z;repeat (obtain ⟨_,_,hh,e2⟩:=Zl e;clear e;subst hh;revert e2;intro e)
     cases bR e;rfl)
 |some u=>
  have k:ns.length<=15->(fN (cx p ns (some u))=true->u.length<=1000)->fN (cx p ns (some u))=true->∀r∈cx p ns (some u),r.length<=1000:=λe f g r hr=>by
   rcases aB.mp hr with e1|e1
   ·rw [e1,aS];omega
   ·rw [aR.mp e1];exact f g
  rcases gw h with ⟨rfl,e,z⟩|⟨rfl,e,z⟩|⟨rfl,e,z⟩|⟨rfl,e,z⟩|⟨rfl,e,z⟩|⟨rfl,e,z⟩|⟨rfl,e,z⟩|⟨rfl,e,z⟩|⟨rfl,e,z⟩|⟨rfl,e,z⟩|⟨rfl,e,z⟩|⟨rfl,e,z⟩|⟨rfl,e,z⟩|⟨rfl,e,z⟩|⟨rfl,e,z⟩|⟨rfl,e,z⟩|⟨rfl,e,z⟩|⟨rfl,e,z⟩
  all_goals first
   |(cases z;done)
   |skip
  ·obtain ⟨a,t,rfl,e'⟩:=Zl e;cases bR e';exact ⟨rfl,k (by rw [e];decide) J9⟩
  ·cases bR e;exact ⟨rfl,k (by rw [e];decide) Ka⟩
  ·obtain ⟨a,t,rfl,e'⟩:=Zl e;cases bR e';exact ⟨rfl,k (by rw [e];decide) J9⟩
inductive Reads:List Int->List (List (List Int))->Prop
 |nil:Reads [] []
 |cons {l p nums row rest cs}:mh l p nums row rest->Reads rest cs->Reads l (cx p nums row::cs)
theorem qw: ∀{f:Nat} {l:List Int} {cs:List (List (List Int))},mI shape f l=some cs->Reads l cs
 |_,[],cs,h=>by
  have:some []=some cs:=by
   rw [<-h];unfold mI;rfl
  cases this;exact .nil
 |0,_::_,cs,h=>by cases h
 |f+1,p::r,cs,h=>by
  unfold mI at h;cases hc:Dz shape (p::r) with
  |none=>rw [hc] at h;cases h
  |some ct=>
   obtain ⟨c,t⟩:=ct;rw [hc] at h;simp only at h;cases ht:mI shape f t with
   |none=>rw [ht] at h;cases h
   |some TK=>
    rw [ht] at h;simp only [fJ] at h;subst h;obtain ⟨p',nums,row,ha,rfl⟩:=Pd hc;exact .cons ha (qw ht)
theorem Reads.ok {l:List Int} {cs:List (List (List Int))} (h:Reads l cs):cs.map whole=cs/\((∀c∈cs,fN c=true)->∀c∈cs, ∀r∈c,r.length<=1000):=by
 induction h with
 |nil=>exact ⟨rfl,λ_ c hc=>by cases hc⟩
 |cons h1 _ ih=>
  obtain ⟨a,b⟩:=Pc h1.shp;refine ⟨by rw [bb,a,ih.1],λk c hc=>?_⟩;rcases aB.mp hc with e|e
  ·rw [e];exact b (k _ aN)
  ·exact ih.2 (λc hc=>k c (aE _ hc)) c e
theorem Qp {l:List Int} (h:answers_asked l=true): ∃cs,Reads l cs/\1<=cs.length/\cs.length<=150/\(∀c∈cs, ∀r∈c,r.length<=1000)/\
  answers l=i5 (iY eX WV cs):=by
 unfold answers_asked at h;unfold answers;cases hc:calls l with
 |none=>rw [hc] at h;cases h
 |some cs=>
  rw [hc] at h;unfold calls at hc;cases hp:mI shape l.length l with
  |none=>rw [hp] at hc;cases hc
  |some TK=>
   rw [hp] at hc;simp only [fJ] at hc;rw [(qw hp).ok.1] at hc;subst hc;have h:(PyFlat.atMost 150 TK&&wO TK)=true:=h;unfold wO at h;simp only [aU,decide_eq_true_eq,bP] at h;exact ⟨TK,qw hp,h.2.1,h.2.2.1,(qw hp).ok.2 h.2.2.2,rfl⟩
theorem GZ (a:List Int) (r:List (List Int)):i5 (a::r)=(a.length:Int)::a++i5 r:=by
 unfold i5;rw [bB]
theorem Bm (s:ag) (c:List (List Int)) (r:List (List (List Int))):
  i5 (iY eX s (c::r))=((jh s c).2.length:Int)::(jh s c).2++i5 (iY eX (jh s c).1 r):=by
 rw [show iY eX s (c::r)=(jh s c).2::iY eX (jh s c).1 r from rfl,GZ]
end Lf
namespace L2
open PySem PySem.Spec PyProof.Rows
abbrev Key:=Sum Int Str
def qG:Key->Value->Bool
 | .inl k,v=>Value.isInt k v
 | .inr x,v=>Value.isStrOf x v
def Zm (w:afW):Key->Int
 | .inl k=>agB k
 | .inr x=>hashStr w x
theorem dM: ∀{k:Key} {v:Value},qG k v=true->(∃i t,k=az i/\v=Value.int i t)∨(∃x t,k=tN x/\v=Value.str x t)
 | .inl i,v,h=>by
  obtain ⟨t,e⟩:=Value.isInt_shape (k:=i) (v:=v) h;exact .inl ⟨i,t,rfl,e⟩
 | .inr x,v,h=>by
  obtain ⟨t,e⟩:=Value.isStrOf_shape (x:=x) (v:=v) h;exact .inr ⟨x,t,rfl,e⟩
theorem iD (i:Int) (t:Tok):qG (.inl i) (.int i t)=true:=by simp [qG,Value.isInt]
theorem HV (x:Str) (t:Tok):qG (.inr x) (.str x t)=true:=by simp [qG,Value.isStrOf]
theorem RH (a b:Int):decide ((az a:Key)=az b)=(a==b):=by
 by_cases e:a=b
 ·subst e;simp
 ·have h: ¬(az a:Key)=az b:=λq=>e (cU q);rw [decide_eq_false h];exact (beq_eq_false_iff_ne.mpr e).symm
theorem RE (a b:Str):decide ((tN a:Key)=tN b)=decide (a=b):=by
 by_cases e:a=b
 ·subst e;simp
 ·have h: ¬(tN a:Key)=tN b:=λq=>e (tN.inj q);rw [decide_eq_false h,decide_eq_false e]
theorem RG (a:Int) (b:Str):decide ((az a:Key)=tN b)=false:=decide_eq_false (λq=>nomatch q)
theorem RF (a:Str) (b:Int):decide ((tN a:Key)=az b)=false:=decide_eq_false (λq=>nomatch q)
def cG (prog:afZ) (w:afW):PySem.KeyKind prog w Key where
 is:=qG
 hash:=Zm w
 inj:=λv a b ha hb=>by
  rcases dM ha with ⟨i,t,rfl,rfl⟩|⟨x,t,rfl,rfl⟩
  ·rcases dM hb with ⟨j,u,rfl,e⟩|⟨y,u,rfl,e⟩
   ·injection e with e1 _;rw [e1]
   ·exact nomatch e
  ·rcases dM hb with ⟨j,u,rfl,e⟩|⟨y,u,rfl,e⟩
   ·exact nomatch e
   ·injection e with e1 _;rw [e1]
 byValue:=λk v h=>by
  rcases dM h with ⟨i,t,rfl,rfl⟩|⟨x,t,rfl,rfl⟩<;>rfl
 pyHash:=λhv h=>by
  rcases dM hv with ⟨i,t,rfl,rfl⟩|⟨x,t,rfl,rfl⟩
  ·exact wpAny_pyHash_int h
  ·exact wpAny_pyHash_str h
 eqBool:=λhu hv h=>by
  rcases dM hu with ⟨i,t,rfl,rfl⟩|⟨x,t,rfl,rfl⟩
  ·rcases dM hv with ⟨j,u,rfl,rfl⟩|⟨y,u,rfl,rfl⟩
   ·rw [RH] at h;exact wpAny_eqBool_int h
   ·rw [RG] at h;exact SeqAt.EqAt.int_str i t y u _ _ _ _ h
  ·rcases dM hv with ⟨j,u,rfl,rfl⟩|⟨y,u,rfl,rfl⟩
   ·rw [RF] at h;exact SeqAt.EqAt.str_int x t j u _ _ _ _ h
   ·rw [RE] at h;exact wpAny_eqBool_str h
 «strs» :=λk x t v h=>by
  rcases dM h with ⟨i,u,rfl,e⟩|⟨y,u,rfl,e⟩
  ·exact nomatch e
  ·injection e with e1 _;subst e1;cases v<;>rfl
theorem BG (prog:afZ) (w:afW) (i:Int) (t:Tok):(cG prog w).is (.inl i) (.int i t)=true:=iD i t
theorem BF (prog:afZ) (w:afW) (x:Str) (t:Tok):(cG prog w).is (.inr x) (.str x t)=true:=HV x t
end L2
namespace L2
open PySem PySem.Spec PyProof.Rows
inductive V where
 |fE|bl (b:Bool)|int (i:Int)|str (x:Str)|Ac (b:Array UInt8)|Wt (b:UInt64)|ref (a:Addr)|ty (n:String)
 deriving DecidableEq
def RelV:V->Value->Prop
 | .fE,u=>u=Value.none
 | .bl b,u=>u=Value.bool b
 | .int i,u=> ∃t,u=Value.int i t
 | .str x,u=> ∃t,u=Value.str x t
 | .Ac b,u=> ∃t,u=Value.bytes b t
 | .Wt b,u=> ∃t,u=Value.float b t
 | .ref a,u=>u=Value.ref a
 | .ty n,u=>u=Value.type n
abbrev Vals:List V->List Value->Prop:=Paired RelV
theorem Vals.length {xs:List V} {us:List Value} (r:Vals xs us):xs.length=us.length:=Paired.length r
theorem Vals.get: ∀{xs:List V} {us:List Value} {i:Nat} {x:V},Vals xs us->xs[i]?=some x->∃u,us[i]?=some u/\RelV x u
 |_,_,_,_, .nil,e=>by simp at e
 |_,_,0,_, .cons r _,e=>by simp at e;subst e;exact ⟨_,rfl,r⟩
 |_,_,i+1,x, .cons _ t,e=>by
  obtain ⟨u,h1,h2⟩:=Vals.get (i:=i) (x:=x) t (by simpa using e);exact ⟨u,by simpa using h1,h2⟩
theorem Vals.set {x:V} {u:Value} (r:RelV x u): ∀{xs:List V} {us:List Value} (i:Nat),Vals xs us->Vals (xs.set i x) (us.set i u)
 |_,_,_, .nil=> .nil
 |_,_,0, .cons _ t=> .cons r t
 |_,_,i+1, .cons q t=> .cons q (Vals.set r i t)
theorem Vals.append: ∀{xs ys:List V} {us ws:List Value},Vals xs us->Vals ys ws->Vals (xs++ys) (us++ws)
 |_,_,_,_, .nil,s=>s
 |_,_,_,_, .cons r t,s=> .cons r (Vals.append t s)
theorem Vals.take: ∀{xs:List V} {us:List Value} (n:Nat),Vals xs us->Vals (xs.take n) (us.take n)
 |_,_,0,_=> .nil
 |_,_,_+1, .nil=> .nil
 |_,_,n+1, .cons r t=> .cons r (Vals.take n t)
theorem Vals.drop: ∀{xs:List V} {us:List Value} (n:Nat),Vals xs us->Vals (xs.drop n) (us.drop n)
 |_,_,0,r=>r
 |_,_,_+1, .nil=> .nil
 |_,_,n+1, .cons _ t=>Vals.drop n t
def jY:Option V->Option Value->Prop
 |some v,some u=>RelV v u
 |none,none=>True
 |_,_=>False
def KV {κ:Type}:List (κ×V)->List (κ×Value)->Prop:=Paired λ(p:κ×V) (q:κ×Value)=>p.1=q.1/\RelV p.2 q.2
def kV:Key->V
 | .inl i=> .int i
 | .inr x=> .str x
inductive HO where
 |lst (xs:List V)
 |tup (xs:List V)
 |dK (kvs:List (Key×V))|dT (kvs:List (List Key×V))
 |set (S:Int->Bool) (n:Nat)
 |ins (C dx:Addr) (fs:List (Str×V))
 |own (x:Addr)
 |xd (fs:List (Str×V))
 |met (f x:Addr)
 |zl (lo hi:Int)
 |kY (o:Obj) (u:HO)
 |QN (ps:Array Value)
 |ext (φ:afV->Prop)
abbrev Hp:=Addr->Option HO
def upd (H:Hp) (a:Addr) (o:HO):Hp:=λb=>if b=a then some o else H b
theorem ak {H:Hp} {a:Addr} {o:HO}:upd H a o a=some o:=by unfold upd;rw [if_pos rfl]
theorem bK {H:Hp} {a b:Addr} {o:HO} (h:b≠a):upd H a o b=H b:=by unfold upd;rw [if_neg h]
theorem Np {H:Hp} {a:Addr} {o u:HO}:upd (upd H a o) a u=upd H a u:=by
 funext b;unfold upd;split<;>rfl
theorem qB {H:Hp} {a b:Addr} {o u:HO} (h:H a=some o) (h':H b=some u) (d:o≠u):a≠b:=by
 intro e;subst e;rw [h] at h';exact d (bx h')
theorem aG {H:Hp} {a b:Addr} {o:HO} (h:H a=some o) (h':H b=none):a≠b:=by
 intro e;subst e;rw [h] at h';cases h'
section
variable (P:afZ) (w:afW)
def dR (H:Hp) (h:afV) (a:Addr):HO->Prop
 | .lst xs=>xs.length<=sizeLine/\∃(its:List Value) (n:Nat),Vals xs its/\h.get? a=some {cls:= .type "list",data:= .seq its.toArray n}
 | .tup xs=>xs.length<=sizeLine/\∃its:List Value,Vals xs its/\IsTup h a its.toArray
 | .dK kvs=>kvs.length<=sizeLine/\(a==agb)=false/\∃vs,KV kvs vs/\h.DictOf (cG P w) a vs
 | .dT kvs=>kvs.length<=sizeLine/\(a==agb)=false/\∃xs:List (List Key×Addr×Value),
   Paired (λ(p:List Key×V) (q:List Key×Addr×Value)=>p.1=q.1/\H q.2.1=some (.tup (p.1.map kV))/\RelV p.2 q.2.2) kvs xs/\
   ∃o es ep,h.get? a=some o/\o.ExactDict/\o.data= .dict es ep/\es.toList=xs.map (entryOfKey (agC (cG P w)))/\(xs.map (·.1)).Nodup
 | .set S n=>h.SetOf (intKind P w) a S n
 | .ins C dx fs=>H dx=some (.own a)/\fs.length<=1000/\dx≠a/\h.get? a=some (eN C dx)/\
   ∃mA,h.Ns1 dx mA/\(∀f,jY (fs.lookup f) (mA f))/\Dd mA (fs.map (·.1))
 | .own _=> ∃o,h.get? a=some o
 | .xd fs=> ∃mA,h.Ns1 a mA/\∀f,jY (fs.lookup f) (mA f)
 | .zl lo hi=> ∃t u v,h.get? a=some {cls:= .type "range",data:= .fields #[.int lo t, .int hi u, .int 1 v]}
 | .kY o u=>h.get? a=some o/\dR H h a u
 | .QN ps=>h.get? a=some {cls:= .none,data:= .fields ps}
 | .met f x=>h.get? a=some (qZ (.ref f) (.ref x))
 | .ext φ=>φ h/\(∃o,h.get? a=some o)/\∀h1 h2:afV,φ h1->(∀o,h1.get? a=some o->h2.get? a=some o)->φ h2
def nT (H:Hp) (h:afV):Prop:= ∀a o,H a=some o->dR P w H h a o
end
section
variable {P:afZ} {w:afW} {H H':Hp} {h h':afV} {a:Addr} {o:HO}
theorem dR.lt (x:dR P w H h a o):a<h.objs.size:=by
 cases o with
 |lst xs=>obtain ⟨_,_,_,_,e⟩:=x;exact Heap.lt_size e
 |tup xs=>obtain ⟨_,_,_,p⟩:=x;exact p.lt
 |dK kvs=>obtain ⟨_,_,_,_,o,_,_,e,_⟩:=x;exact Heap.lt_size e
 |dT kvs=>obtain ⟨_,_,_,_,o,_,_,e,_⟩:=x;exact Heap.lt_size e
 |set S n=>obtain ⟨o,_,_,_,e,_⟩:=x;exact Heap.lt_size e
 |ins C dx fs=>obtain ⟨_,_,_,e,_⟩:=x;exact Heap.lt_size e
 |own y=>obtain ⟨_,e⟩:=x;exact Heap.lt_size e
 |xd fs=>obtain ⟨_,⟨_,_,_,e,_⟩,_⟩:=x;exact Heap.lt_size e
 |zl lo hi=>obtain ⟨_,_,_,e⟩:=x;exact Heap.lt_size e
 |kY ob u=>obtain ⟨e,_⟩:=x;exact Heap.lt_size e
 |QN ps=>exact Heap.lt_size (show h.get? a=some _ from x)
 |met f y=>exact Heap.lt_size (show h.get? a=some _ from x)
 |ext φ=>obtain ⟨_,⟨_,e⟩,_⟩:=x;exact Heap.lt_size e
theorem Paired.Rv {α β:Type} {F G:α->β->Prop}: ∀{Rx:List α} {Rw:List β},Paired F Rx Rw->(∀a b,F a b->G a b)->Paired G Rx Rw
 |_,_, .nil,_=> .nil
 |_,_, .cons r t,f=> .cons (f _ _ r) (Paired.Rv t f)
theorem dR.fS (x:dR P w H h a o) (k: ∀b u,(b=a∨H b=some (.own a))->h.get? b=some u->h'.get? b=some u)
  (ho: ∀b,H b=some (.own a)->H' b=some (.own a)) (ht: ∀b xs,H b=some (.tup xs)->H' b=some (.tup xs)):dR P w H' h' a o:=by
 induction o with
 |lst xs=>obtain ⟨z,its,n,r,e⟩:=x;exact ⟨z,its,n,r,k _ _ (.inl rfl) e⟩
 |tup xs=>obtain ⟨z,its,r,ob,e,c⟩:=x;exact ⟨z,its,r,ob,k _ _ (.inl rfl) e,c⟩
 |dK kvs=>obtain ⟨z,y,vs,r,ob,es,ep,e,c⟩:=x;exact ⟨z,y,vs,r,ob,es,ep,k _ _ (.inl rfl) e,c⟩
 |dT kvs=>
  obtain ⟨z,y,xs,r,ob,es,ep,e,c⟩:=x;exact ⟨z,y,xs,Paired.Rv r λp q z=>⟨z.1,ht _ _ z.2.1,z.2.2⟩,ob,es,ep,k _ _ (.inl rfl) e,c⟩
 |set S n=>obtain ⟨ob,es,ep,t,e,c⟩:=x;exact ⟨ob,es,ep,t,k _ _ (.inl rfl) e,c⟩
 |ins C dx fs=>
  obtain ⟨d,z,ne,e,mA,⟨od,es,ep,e2,c⟩,r⟩:=x;exact ⟨ho _ d,z,ne,k _ _ (.inl rfl) e,mA,⟨od,es,ep,k _ _ (.inr d) e2,c⟩,r⟩
 |own y=>obtain ⟨ob,e⟩:=x;exact ⟨ob,k _ _ (.inl rfl) e⟩
 |xd fs=>obtain ⟨mA,⟨od,es,ep,e,c⟩,r⟩:=x;exact ⟨mA,⟨od,es,ep,k _ _ (.inl rfl) e,c⟩,r⟩
 |zl lo hi=>obtain ⟨t,u,v,e⟩:=x;exact ⟨t,u,v,k _ _ (.inl rfl) e⟩
 |kY ob u ih=>obtain ⟨e,q⟩:=x;exact ⟨k _ _ (.inl rfl) e,ih q⟩
 |QN ps=>
  have e:h.get? a=some {cls:= .none,data:= .fields ps}:=x;show h'.get? a=some {cls:= .none,data:= .fields ps};exact k a _ (.inl rfl) e
 |met f y=>
  have e:h.get? a=some (qZ (.ref f) (.ref y)):=x;show h'.get? a=some (qZ (.ref f) (.ref y));exact k a _ (.inl rfl) e
 |ext φ=>obtain ⟨p,⟨o,e⟩,st⟩:=x;exact ⟨st _ _ p λo q=>k _ _ (.inl rfl) q,⟨o,k _ _ (.inl rfl) e⟩,st⟩
theorem nT.lt (x:nT P w H h) (e:H a=some o):a<h.objs.size:=(x a o e).lt
theorem nT.fresh (x:nT P w H h) (e:h.objs.size<=a):H a=none:=by
 cases q:H a with
 |none=>rfl
 |some u=>exact absurd (bu (x.lt q) e) (dO _)
theorem nT.kept (x:nT P w H h) (k: ∀b u,h.get? b=some u->h'.get? b=some u):nT P w H h':=λa o e=>
 (x a o e).fS (λb u _ q=>k b u q) (λ_ q=>q) λ_ _ q=>q
theorem nT.laid (x:nT P w H h) (k: ∀b u,h.get? b=some u->h'.get? b=some u) (hp:h.objs.size<=a) (new:dR P w (upd H a o) h' a o):nT P w (upd H a o) h':=λb u e=>by
 have hn:=x.fresh hp;by_cases hb:b=a
 ·subst hb;rw [ak] at e;cases e;exact new
 ·rw [bK hb] at e;exact (x b u e).fS (λc v _ q=>k c v q) (λc q=>by rw [bK (aG q hn)];exact q) λc xs q=>by rw [bK (aG q hn)];exact q
end
def Rd (H:Hp) (a:Addr) (u:HO):Prop:=H a=some u∨∃o,H a=some (.kY o u)
theorem Rd.ok {P:afZ} {w:afW} {H:Hp} {h:afV} {a:Addr} {u:HO} (r:Rd H a u) (x:nT P w H h):dR P w H h a u:=by
 rcases r with r|⟨o,r⟩
 ·exact x a u r
 ·obtain ⟨_,q⟩:=x a _ r;exact q
def Qs:Option HO->Prop
 |some (.lst _)=>True
 |some (.dK _)=>True
 |some (.dT _)=>True
 |some (.set _ _)=>True
 |some (.ins _ _ _)=>True
 |some (.ext _)=>True
 |_=>False
section
variable {P:afZ} {w:afW} {H:Hp} {h h':afV} {x e:Addr} {o':HO}
theorem nT.write (ok:nT P w H h) (mu:Qs (H x)) (he:e=x∨H e=some (.own x)) (k: ∀b u,b≠e->h.get? b=some u->h'.get? b=some u) (Tw: ∃u,h'.get? e=some u)
  (new:dR P w (upd H x o') h' x o'):nT P w (upd H x o') h':=λb u q=>by
 have U3: ∀c y,H c=some (.own y)->c≠x:=λc y r z=>by subst z;rw [r] at mu;exact mu
 have Y9: ∀c xs,H c=some (.tup xs)->c≠x:=λc xs r z=>by subst z;rw [r] at mu;exact mu
 by_cases hb:b=x
 ·subst hb;rw [ak] at q;cases q;exact new
 ·rw [bK hb] at q;by_cases EC:b=e
  ·have q':H b=some (.own x):=by
    rcases he with z|z
    ·exact absurd (EC.trans z) hb
    ·rw [EC];exact z
   rw [q] at q';cases q';obtain ⟨v,hv⟩:=Tw;exact ⟨v,by rw [EC];exact hv⟩
  ·refine (ok b u q).fS (λc v hc r=>k c v ?_ r) (λc r=>by rw [bK (U3 c b r)];exact r) λc xs r=>by rw [bK (Y9 c xs r)];exact r
   rcases hc with rfl|hc
   ·exact EC
   ·rintro rfl;rcases he with z|z
    ·exact U3 c b hc z
    ·rw [hc] at z;cases z;exact hb rfl
end
structure Un (fs ex:List Addr) (H H':Hp) (h h':afV):Prop where
 keep: ∀b o,h.get? b=some o->H b=none->b∉fs->b∉ex->h'.get? b=some o
 slot: ∀b o,h.get? b=some o->H b=none->b∈fs->b∉ex->∃sl,h'.get? b=some {o with slots:=sl}
 free: ∀b o,h.get? b=some o->H b=none->b∉ex->H' b=none
 there: ∀b o,h.get? b=some o->b∉ex->∃o',h'.get? b=some o'
 uD: ∀b xs,H b=some (.tup xs)->H' b=some (.tup xs)
 vR: ∀b o u,H b=some (.kY o u)->H' b=some (.kY o u)
 yY: ∀b ps,H b=some (.QN ps)->∃more,H' b=some (.QN (ps++more))
section
variable {fs Wk ex ex':List Addr} {H H1 H2:Hp} {h h1 h2 h':afV} {a x e:Addr} {o:HO}
theorem Un.any (u:Un fs ex H H1 h h1) {b:Addr} {ob:Obj} (q:h.get? b=some ob) (n:H b=none) (hx:b∉ex): ∃sl,h1.get? b=some {ob with slots:=sl}:=by
 by_cases hb:b∈fs
 ·exact u.slot b ob q n hb hx
 ·exact ⟨ob.slots,u.keep b ob q n hb hx⟩
theorem Un.kept (k: ∀b u,h.get? b=some u->h'.get? b=some u):Un fs ex H H h h':=
 ⟨λb ob q _ _ _=>k b ob q,λb ob q _ _ _=>⟨ob.slots,k b ob q⟩,λ_ _ _ n _=>n,λb ob q _=>⟨ob,k b ob q⟩,λ_ _ q=>q,λ_ _ _ q=>q,λ_ ps q=>⟨#[],by rw [q];simp⟩⟩
theorem Un.refl:Un fs ex H H h h:=Un.kept λ_ _ q=>q
theorem Un.laid (k: ∀b u,h.get? b=some u->h'.get? b=some u) (hp:h.objs.size<=a) (hn:H a=none):Un fs ex H (upd H a o) h h' where
 keep:=λb u q _ _ _=>k b u q
 slot:=λb u q _ _ _=>⟨u.slots,k b u q⟩
 free:=λb u q n _=>by rw [bK (bH (bu (Heap.lt_size q) hp))];exact n
 there:=λb u q _=>⟨u,k b u q⟩
 uD:=λb xs q=>by rw [bK (aG q hn)];exact q
 vR:=λb u xs q=>by rw [bK (aG q hn)];exact q
 yY:=λb ps q=>⟨#[],by rw [bK (aG q hn),q];simp⟩
theorem Un.write (mu:Qs (H x)) (he:e=x∨H e=some (.own x)) (k: ∀b u,b≠e->h.get? b=some u->h'.get? b=some u) (Tw: ∃u,h'.get? e=some u):Un fs ex H (upd H x o) h h':=by
 have hx: ∀b,H b=none->b≠x:=λb n z=>by subst z;rw [n] at mu;exact mu
 have hb: ∀b,H b=none->b≠e:=λb n z=>by
  subst z;rcases he with r|r
  ·exact hx b n r
  ·rw [n] at r;cases r
 have hm: ∀b u,H b=some u->¬Qs (some u)->b≠x:=λb u q nm z=>by subst z;rw [q] at mu;exact nm mu
 refine ⟨λb u q n _ _=>k b u (hb b n) q,λb u q n _ _=>⟨u.slots,k b u (hb b n) q⟩,λb u q n _=>by rw [bK (hx b n)];exact n,λb u q _=>?_,
  λb xs q=>by rw [bK (hm b _ q λz=>z)];exact q,λb u xs q=>by rw [bK (hm b _ q λz=>z)];exact q,λb ps q=>⟨#[],by rw [bK (hm b _ q λz=>z),q];simp⟩⟩
 by_cases EC:b=e
 ·subst EC;exact Tw
 ·exact ⟨u,k b u EC q⟩
end
def W9 (h:afV) (H:Hp):List Addr:=(bv h.objs.size).filter λa=>(H a).isSome
def zL (h:afV) (H:Hp):afV:=PySem.W.hideAll h (W9 h H)
theorem Ig (h:afV) (H:Hp):(zL h H).objs.size=h.objs.size:=PySem.W.hideAll_size _ _
theorem K9 {h:afV} {H:Hp} {b:Addr} {o:Obj} (e:h.get? b=some o) (n:H b=none):(zL h H).get? b=some o:=
 PySem.W.hideAll_get _ e λhm=>by
  have q:(H b).isSome=true:=(au.mp hm).2;rw [n] at q;simp at q
theorem Of {h:afV} {H:Hp} {b:Addr} {o:Obj} (e:(zL h H).get? b=some o):h.get? b=some o/\H b=none:=by
 have e':h.get? b=some o:=PySem.W.of_hideAll (W9 h H) e;refine ⟨e',?_⟩;cases q:H b with
 |none=>rfl
 |some x=>
  have hm:b∈W9 h H:=au.mpr ⟨bE.mpr (Heap.lt_size e'),by simp [q]⟩;have z:(zL h H).get? b=none:=PySem.W.hideAll_none (W9 h H) hm;rw [z] at e;cases e
end L2
namespace L2
open PySem PySem.Spec PyProof.Rows
structure Mod (K:aa) (mg:Str->Option Value) (base:afV):Prop where
 Vh:K.In base
 glob:base.Ns af4 mg
 blt: ∃mb,base.Ns builtinsNs mb/\∀x:Str,x≠"__name__"->mb x=agK x
 nolimit:base.NoLimit
structure Cx where
 prog:afZ
 w:afW
 K:aa
 mg:Str->Option Value
 base:afV
 A:af3
 N:List Str
 xQ:afU
 SU:Hp
 env:Env
 outer:List Env
 stack:List Env
 ex:List Addr
 fn:Str->Bool
 calm:Bool
 pn:List (Addr×Obj)
 xe:Value->afU->Prop
def Lp (l:List Env):List Addr:=l.filterMap (·.frame)
abbrev Cx.fs (X:Cx):List Addr:=Lp X.outer
def WK (sc:af8) (x:Str):Prop:=sc.names.lookup x=some .local∨sc.names.lookup x=some .cell∨sc.names.lookup x=some .free
def Loc (sc:af8) (x:Str):Prop:=sc.names.lookup x=some .local∨sc.names.lookup x=some .cell
def Look (env:Env) (h:afV) (m:Str->Option Value) (x:Str) (u:Value):Prop:=
 (env.kindOf x=some .local/\m x=some u)∨((env.kindOf x=some .cell∨env.kindOf x=some .free)/\∃c,env.cells.lookup x=some c/\h.IsCell c (some u))
structure Cx.Ok (X:Cx):Prop where
 mod:Mod X.K X.mg X.base
 kind:X.env.scope.kind= .function
 glob:X.env.globals=af4
 blt:X.env.builtins=builtinsNs
 above:X.xQ.heap.objs.size<=X.env.locals
 inj: ∀x y c,X.env.cells.lookup x=some c->X.env.cells.lookup y=some c->x=y
 has: ∀x,(X.env.kindOf x=some .cell∨X.env.kindOf x=some .free)->∃c,X.env.cells.lookup x=some c
 WG: ∀x c,X.fn x=true->X.env.cells.lookup x=some c->X.xQ.heap.objs.size<=c
 hd:X.calm=true->X.A.handled=none
 frames:X.A.frames=some X.stack
 Xb:X.stack=X.outer∨(X.stack=X.env::X.outer/\X.env.frame=some X.env.locals)
 XR: ∀b∈X.ex,b≠X.env.locals/\∀x c,X.env.cells.lookup x=some c->c≠b
 bs: ∀b o,X.base.get? b=some o->X.xQ.heap.get? b=some o/\X.SU b=none
 Pe:X.base.objs.size<=X.xQ.heap.objs.size
 KG: ∀b o,X.base.get? b=some o->b∉X.ex
 Md: ∀b∈X.ex,b∉X.fs
 tH:X.xQ.heap.FunFrames X.base X.outer
 Sb: ∀b∈X.fs,X.SU b=none
structure Inv (X:Cx) (pins:List (Addr×Obj)) (σ:List (Option V)) (H:Hp) (s:afU):Prop where
 ok:X.Ok
 os:s.os=X.xQ.os
 bare:AllBare s.gens
 base:Un X.fs X.ex X.SU H X.xQ.heap s.heap
 loc: ∃m,s.heap.Ns X.env.locals m/\∀(i:Nat) (x:Str) (v:V),X.N[i]?=some x->σ[i]?=some (some v)->WK X.env.scope x->∃u,RelV v u/\Look X.env s.heap m x u
 cell: ∀x c,X.env.cells.lookup x=some c->∃v,s.heap.IsCell c v
 free:H X.env.locals=none
 kZ: ∀x c,X.env.cells.lookup x=some c->H c=none
 pin: ∀p∈X.pn++pins,s.heap.get? p.1=some p.2/\H p.1=none/\p.1≠X.env.locals/\p.1∉X.fs/\∀v,p.2.data≠ .cell v
 cN:nT X.prog X.w H s.heap
 len:σ.length=X.N.length
section
variable {X:Cx} {pins:List (Addr×Obj)} {σ:List (Option V)} {H H':Hp} {s:afU} {h':afV}
theorem Cx.Ok.Zd (ok:X.Ok) {b:Addr} {o:Obj} (e:X.base.get? b=some o):b∉X.fs:=λhb=>by
 have:=(ok.tH.mem hb).1;rw [e] at this;cases this
theorem Inv.bs (I:Inv X pins σ H s): ∀b o,X.base.get? b=some o->s.heap.get? b=some o/\H b=none:=λb o e=>
 ⟨I.base.keep b o (I.ok.bs b o e).1 (I.ok.bs b o e).2 (I.ok.Zd e) (I.ok.KG b o e),I.base.free b o (I.ok.bs b o e).1 (I.ok.bs b o e).2 (I.ok.KG b o e)⟩
theorem Inv.bk (I:Inv X pins σ H s): ∀b o,X.base.get? b=some o->s.heap.get? b=some o:=λb o e=>(I.bs b o e).1
theorem Inv.mod (I:Inv X pins σ H s):Mod X.K X.mg X.base:=I.ok.mod
theorem Inv.FZ (I:Inv X pins σ H s):X.K.In s.heap:=I.ok.mod.Vh.keeps I.bk
theorem Inv.lt (I:Inv X pins σ H s):X.env.locals<s.heap.objs.size:=let ⟨_,hn,_⟩:=I.loc;hn.lt
theorem Inv.sz (I:Inv X pins σ H s):X.xQ.heap.objs.size<=s.heap.objs.size:=aV I.ok.above (j1 I.lt)
theorem Inv.Zc (I:Inv X pins σ H s) {a:Addr} (h:s.heap.objs.size<=a):a∉X.fs:=λhb=>by
 obtain ⟨_,o,ho,_⟩:=I.ok.tH.mem hb;exact absurd (bu (Heap.lt_size ho) (aV I.sz h)) (dO _)
theorem Inv.SF (I:Inv X pins σ H s): ∀x c,X.env.cells.lookup x=some c->c≠X.env.locals:=λx c e z=>by
 obtain ⟨v,o,ho,hd⟩:=I.cell x c e;obtain ⟨m,⟨o',es,ep,Do,hd',_⟩,_⟩:=I.loc;rw [z,Do] at ho;cases ho;rw [hd'] at hd;cases hd
theorem Inv.tH (I:Inv X pins σ H s):s.heap.FunFrames X.base X.outer:=by
 have all: ∀(l:List Env),(∀b∈Lp l,b∈X.fs)->X.xQ.heap.FunFrames X.base l->s.heap.FunFrames X.base l:=by
  intro l;induction l with
  |nil=>intro _ _;trivial
  |cons env r ih=>
   intro hs hl;obtain ⟨hk,⟨L,o,hf,hn,ho,hd⟩,hr⟩:=hl;have hL:L∈X.fs:=hs L (by unfold Lp;rw [cW,hf];exact aN);obtain ⟨sl,e⟩:=I.base.slot L o ho (I.ok.Sb L hL) hL λz=>I.ok.Md L z hL;exact ⟨hk,⟨L,_,hf,hn,e,hd⟩,ih (λb hb=>hs b (by unfold Lp;rw [cW,hf];exact aE _ hb)) hr⟩
 exact all X.outer (λ_ hb=>hb) I.ok.tH
theorem Inv.stack (I:Inv X pins σ H s):s.heap.FunFrames X.base X.stack:=by
 rcases I.ok.Xb with e|⟨e,hf⟩
 ·rw [e];exact I.tH
 ·rw [e];obtain ⟨m,hn,_⟩:=I.loc;refine .cons (by rw [I.ok.kind];decide) hf hn ?_ I.tH;exact Heap.get?_none_of_le (aV I.ok.Pe I.ok.above)
theorem Inv.DP (I:Inv X pins σ H s): ∀b∈Lp X.stack,b∈X.env.locals::X.fs:=λb hb=>by
 rcases I.ok.Xb with e|⟨e,hf⟩
 ·rw [e] at hb;exact aE _ hb
 ·rw [e] at hb;unfold Lp at hb;rw [cW,hf] at hb;exact hb
theorem Inv.Fd (I:Inv X pins σ H s): ∀b∈Lp X.stack,H b=none:=λb hb=>by
 rcases aB.mp (I.DP b hb) with e|hb
 ·rw [e];exact I.free
 ·obtain ⟨_,o,ho,_⟩:=I.ok.tH.mem hb;exact I.base.free b o ho (I.ok.Sb b hb) λz=>I.ok.Md b z hb
theorem Inv.step {g':Array GenState} {t':Nat} {d':Drawn} {ch:List Addr} (I:Inv X pins σ H s)
  (Ay: ∀b∈ch,(b∈X.ex∨X.xQ.heap.objs.size<=b)/\b≠X.env.locals/\(∀x c,X.env.cells.lookup x=some c->c≠b)/\∀p∈X.pn++pins,p.1≠b)
  (keep: ∀b o,b≠X.env.locals->b∉X.fs->b∉ch->s.heap.get? b=some o->H b=none->h'.get? b=some o)
  (slot: ∀b o,b≠X.env.locals->b∈X.fs->b∉ch->s.heap.get? b=some o->H b=none->∃sl,h'.get? b=some {o with slots:=sl}) (free: ∀b o,b∉ch->s.heap.get? b=some o->H b=none->H' b=none)
  (there: ∀b o,b∉ch->s.heap.get? b=some o->∃o',h'.get? b=some o')
  (uD: ∀b xs,H b=some (.tup xs)->H' b=some (.tup xs)) (vR: ∀b o u,H b=some (.kY o u)->H' b=some (.kY o u)) (yY: ∀b ps,H b=some (.QN ps)->∃more,H' b=some (.QN (ps++more)))
  (ns: ∀m,s.heap.Ns X.env.locals m->h'.Ns X.env.locals m) (cN:nT X.prog X.w H' h') (hg:AllBare g'):
  Inv X pins σ H' {s with heap:=h',gens:=g',drawn:=d',toks:=t'}:=by
 have neL: ∀b o,X.xQ.heap.get? b=some o->b≠X.env.locals:=λb o e=>bH (bu (Heap.lt_size e) I.ok.above);have Xl: ∀b o,X.xQ.heap.get? b=some o->b∉X.ex->b∉ch:=λb o e hx hb=>by
  rcases (Ay b hb).1 with z|z
  ·exact hx z
  ·exact absurd (bu (Heap.lt_size e) z) (dO _)
 have cellK: ∀x c,X.env.cells.lookup x=some c->∀v,s.heap.IsCell c v->h'.IsCell c v:=λx c e v ⟨o,ho,hd⟩=>by
  have U8:c∉ch:=λz=>(Ay c z).2.2.1 x c e rfl;by_cases hc:c∈X.fs
  ·obtain ⟨sl,q⟩:=slot c o (I.SF x c e) hc U8 ho (I.kZ x c e);exact ⟨_,q,hd⟩
  ·exact ⟨o,keep c o (I.SF x c e) hc U8 ho (I.kZ x c e),hd⟩
 refine ⟨I.ok,I.os,hg,⟨λb o e n hb hx=>?_,λb o e n hb hx=>?_,λb o e n hx=>?_,λb o e hx=>?_,λb xs e=>uD b xs (I.base.uD b xs e),λb o xs e=>vR b o xs (I.base.vR b o xs e),λb ps e=>?_⟩,?_,λx c e=>?_,?_,λx c e=>?_,λp hp=>?_,cN,I.len⟩
 ·exact keep b o (neL b o e) hb (Xl b o e hx) (I.base.keep b o e n hb hx) (I.base.free b o e n hx)
 ·obtain ⟨sl,e1⟩:=I.base.slot b o e n hb hx;obtain ⟨sl',e2⟩:=slot b _ (neL b o e) hb (Xl b o e hx) e1 (I.base.free b o e n hx);exact ⟨sl',e2⟩
 ·obtain ⟨o',e1⟩:=I.base.there b o e hx;exact free b o' (Xl b o e hx) e1 (I.base.free b o e n hx)
 ·obtain ⟨o',e1⟩:=I.base.there b o e hx;exact there b o' (Xl b o e hx) e1
 ·obtain ⟨m1,e1⟩:=I.base.yY b ps e;obtain ⟨m2,e2⟩:=yY b _ e1;exact ⟨m1++m2,by rw [e2,Array.append_assoc]⟩
 ·obtain ⟨m,hn,hl⟩:=I.loc;refine ⟨m,ns m hn,λi x v e1 e2 e3=>?_⟩;obtain ⟨u,r,l⟩:=hl i x v e1 e2 e3;refine ⟨u,r,?_⟩;rcases l with l|⟨k,c,e,z⟩
  ·exact .inl l
  ·exact .inr ⟨k,c,e,cellK x c e _ z⟩
 ·obtain ⟨v,z⟩:=I.cell x c e;exact ⟨v,cellK x c e v z⟩
 ·obtain ⟨m,⟨o,_,_,ho,_⟩,_⟩:=I.loc;exact free _ o (λz=>(Ay _ z).2.1 rfl) ho I.free
 ·obtain ⟨v,o,ho,hd⟩:=I.cell x c e;exact free c o (λz=>(Ay c z).2.2.1 x c e rfl) ho (I.kZ x c e)
 ·obtain ⟨e,n,ne,nf,d⟩:=I.pin p hp;have U8:p.1∉ch:=λz=>(Ay p.1 z).2.2.2 p hp rfl;exact ⟨keep p.1 p.2 ne nf U8 e n,free p.1 p.2 U8 e n,ne,nf,d⟩
theorem Inv.un {t':Nat} (I:Inv X pins σ H s) (u:Un X.fs [] H H' s.heap h') (cN:nT X.prog X.w H' h'):Inv X pins σ H' {s with heap:=h',toks:=t'}:=by
 obtain ⟨m,⟨o,es,ep,ho,r⟩,_⟩:=id I.loc;obtain ⟨sl,hL⟩:=u.any ho I.free (by simp);exact I.step (g':=s.gens) (d':=s.drawn) (ch:= []) (λ_ z=>nomatch z) (λb o _ hb _ e n=>u.keep b o e n hb (by simp)) (λb o _ hb _ e n=>u.slot b o e n hb (by simp)) (λb o _ e n=>u.free b o e n (by simp)) (λb o _ e=>u.there b o e (by simp)) u.uD u.vR u.yY (λm' hm=>by
  obtain ⟨o',Ql,Qm,Do,r'⟩:=hm;rw [ho] at Do;cases Do;exact ⟨_,Ql,Qm,hL,r'⟩) cN I.bare
theorem Inv.call {g':Array GenState} {t':Nat} {d':Drawn} {ch:List Addr} (I:Inv X pins σ H s) (u:Un (Lp X.stack) ch H H' s.heap h') (cN:nT X.prog X.w H' h') (hg:AllBare g')
  (Ay: ∀b∈ch,(b∈X.ex∨X.xQ.heap.objs.size<=b)/\b≠X.env.locals/\(∀x c,X.env.cells.lookup x=some c->c≠b)/\∀p∈X.pn++pins,p.1≠b):
  Inv X pins σ H' {s with heap:=h',gens:=g',drawn:=d',toks:=t'}:=by
 obtain ⟨m,⟨o,es,ep,ho,r⟩,_⟩:=id I.loc;obtain ⟨sl,hL⟩:=u.any ho I.free λz=>(Ay _ z).2.1 rfl;exact I.step (ch:=ch) Ay (λb o hL hb hc e n=>u.keep b o e n (λz=>(aB.mp (I.DP b z)).elim hL hb) hc) (λb o _ _ hc e n=>u.any e n hc) (λb o hc e n=>u.free b o e n hc) (λb o hc e=>u.there b o e hc) u.uD u.vR u.yY (λm' hm=>by
  obtain ⟨o',Ql,Qm,Do,r'⟩:=hm;rw [ho] at Do;cases Do;exact ⟨_,Ql,Qm,hL,r'⟩) cN hg
theorem Inv.turned {t':Nat} {it:Addr} (I:Inv X pins σ H s) (k: ∀b o,b≠it->s.heap.get? b=some o->h'.get? b=some o) (hn:H it=none) (hL:it≠X.env.locals)
  (h1:it∈X.ex∨X.xQ.heap.objs.size<=it) (h2: ∀x c,X.env.cells.lookup x=some c->c≠it) (h3: ∀p∈X.pn++pins,p.1≠it):Inv X pins σ H {s with heap:=h',toks:=t'}:=by
 have PV: ∀b u,H b=some u->b≠it:=λb u e z=>by rw [z,hn] at e;cases e
 refine I.step (g':=s.gens) (d':=s.drawn) (ch:= [it]) (λb hb=>?_) (λb o _ _ hc e _=>k b o (λz=>hc (by simp [z])) e) (λb o _ _ hc e _=>⟨o.slots,k b o (λz=>hc (by simp [z])) e⟩) (λ_ _ _ _ n=>n)
  (λb o hc e=>⟨o,k b o (λz=>hc (by simp [z])) e⟩) (λ_ _ e=>e) (λ_ _ _ e=>e) (λb ps e=>⟨#[],by rw [e];simp⟩) (λm hm=>?_) (λb u e=>?_) I.bare
 ·have e:b=it:=by simpa using hb
  subst e;exact ⟨h1,hL,h2,h3⟩
 ·obtain ⟨o,es,ep,ho,r⟩:=hm;exact ⟨o,es,ep,k _ o (fc hL) ho,r⟩
 ·refine (I.cN b u e).fS (λc v hc q=>k c v ?_ q) (λ_ q=>q) λ_ _ q=>q;rcases hc with z|z
  ·rw [z];exact PV b u e
  ·exact PV c _ z
theorem Inv.tok (I:Inv X pins σ H s) (t:Nat):Inv X pins σ H {s with toks:=t}:=I.un (h':=s.heap) (t':=t) Un.refl I.cN
theorem Inv.kept {t':Nat} (I:Inv X pins σ H s) (k: ∀b u,s.heap.get? b=some u->h'.get? b=some u):Inv X pins σ H {s with heap:=h',toks:=t'}:=I.un (Un.kept k) (I.cN.kept k)
theorem Inv.laid {a:Addr} {o:HO} {t':Nat} (I:Inv X pins σ H s) (k: ∀b u,s.heap.get? b=some u->h'.get? b=some u) (hp:s.heap.objs.size<=a) (new:dR X.prog X.w (upd H a o) h' a o):
  Inv X pins σ (upd H a o) {s with heap:=h',toks:=t'}:=I.un (Un.laid k hp (I.cN.fresh hp)) (I.cN.laid k hp new)
theorem Inv.write {x e:Addr} {o:HO} {t':Nat} (I:Inv X pins σ H s) (mu:Qs (H x)) (he:e=x∨H e=some (.own x)) (k: ∀b u,b≠e->s.heap.get? b=some u->h'.get? b=some u) (Tw: ∃u,h'.get? e=some u)
  (new:dR X.prog X.w (upd H x o) h' x o):Inv X pins σ (upd H x o) {s with heap:=h',toks:=t'}:=I.un (Un.write mu he k Tw) (I.cN.write mu he k Tw new)
theorem Inv.weak {eM:List (Option V)} (I:Inv X pins σ H s) (hl:eM.length=σ.length) (w: ∀(i:Nat) v,eM[i]?=some (some v)->σ[i]?=some (some v)):Inv X pins eM H s:=
 ⟨I.ok,I.os,I.bare,I.base,let ⟨m,hn,hl'⟩:=I.loc;⟨m,hn,λi x v e1 e2 e3=>hl' i x v e1 (w i v e2) e3⟩,I.cell,I.free,I.kZ,I.pin,I.cN,hl.trans I.len⟩
theorem Inv.FG {PQ:List (Addr×Obj)} (I:Inv X pins σ H s) (h: ∀p∈PQ,s.heap.get? p.1=some p.2/\H p.1=none/\p.1≠X.env.locals/\p.1∉X.fs/\∀v,p.2.data≠ .cell v):Inv X PQ σ H s:=
 ⟨I.ok,I.os,I.bare,I.base,I.loc,I.cell,I.free,I.kZ,λp hp=>(bF.mp hp).elim (λz=>I.pin p (cR _ z)) (h p),I.cN,I.len⟩
theorem vt {N:List Str} (hN:N.Nodup) {i j:Nat} {x:Str} (a:N[i]?=some x) (b:N[j]?=some x):i=j:=by
 obtain ⟨h1,e1⟩:=aJ.mp a;obtain ⟨h2,e2⟩:=aJ.mp b;exact (List.getElem_inj hN).mp (e1.trans e2.symm)
theorem xH {M:Model} {A:af3} {E:Value->afU->Prop} {i:Nat} {x:Str} {v:V} {u:Value} {Q:Unit->afU->Prop} (I:Inv X pins σ H s) (hN:X.N.Nodup) (hi:X.N[i]?=some x) (hx:Loc X.env.scope x) (r:RelV v u)
  (h: ∀s',Inv X pins (σ.set i (some v)) H s'->(∃a,Heap.SameBut a s.heap s'.heap/\(a=X.env.locals∨X.env.cells.lookup x=some a))->Q () s') (hf:X.fn x=true∨X.env.scope.names.lookup x=some .local:=by first|exact .inl rfl|exact .inr rfl|assumption):wpAny M A (storeName X.env x u) Q E s:=by
 obtain ⟨m,hn,hl⟩:=id I.loc;have aak:(X.env.scope.kind== .class||(X.env.scope.kind== .module&&X.env.locals !=X.env.globals))=false:=by rw [I.ok.kind];rfl
 have V0:i<σ.length:=by rw [I.len];exact (aJ.mp hi).1
 have SF:=I.SF;have tracked: ∀{a:Addr} {h':afV},(∃o,s.heap.get? a=some o/\H a=none)->Heap.SameBut a s.heap h'->nT X.prog X.w H h':=λ{a h'} ha hs b ob e=>by
  obtain ⟨_,_,yi⟩:=ha;refine (I.cN b ob e).fS (λc w' hc q=>(hs.2 c ?_).trans q) (λ_ q=>q) λ_ _ q=>q;rintro rfl;rcases hc with rfl|hc
  ·rw [yi] at e;cases e
  ·rw [yi] at hc;cases hc
 rcases hx with hk|hk
 ·refine wpAny_storeName_local hk hn (λh' Xw hs=>?_) aak;obtain ⟨oL,_,_,VJ,_⟩:=id hn;refine h _ ⟨I.ok,I.os,I.bare,⟨λb o e n hb hx=>?_,λb o e n hb hx=>?_,I.base.free,λb o e hx=>?_,I.base.uD,I.base.vR,I.base.yY⟩,⟨_,Xw,λj y v' e1 e2 e3=>?_⟩,λy c e=>?_,I.free,I.kZ,λp hp=>?_,tracked ⟨oL,VJ,I.free⟩ hs,by simpa using I.len⟩ ⟨_,hs, .inl rfl⟩
  ·exact (hs.2 b (bH (bu (Heap.lt_size e) I.ok.above))).trans (I.base.keep b o e n hb hx)
  ·obtain ⟨sl,e1⟩:=I.base.slot b o e n hb hx;exact ⟨sl,(hs.2 b (bH (bu (Heap.lt_size e) I.ok.above))).trans e1⟩
  ·obtain ⟨o',e1⟩:=I.base.there b o e hx;exact ⟨o',(hs.2 b (bH (bu (Heap.lt_size e) I.ok.above))).trans e1⟩
  ·by_cases hj:j=i
   ·subst hj;rw [hi] at e1;cases e1;rw [mU V0] at e2;cases e2;exact ⟨u,r, .inl ⟨hk,by simp⟩⟩
   ·rw [o8 (fc hj)] at e2;obtain ⟨u',r',q⟩:=hl j y v' e1 e2 e3;refine ⟨u',r',?_⟩;rcases q with ⟨k,e⟩|⟨k,c,e,z⟩
    ·refine .inl ⟨k,?_⟩;have:y≠x:=λe=>hj (vt hN e1 (e▸hi));simp [this,e]
    ·exact .inr ⟨k,c,e,z.sameBut hs (SF y c e)⟩
  ·obtain ⟨w',z⟩:=I.cell y c e;exact ⟨w',z.sameBut hs (SF y c e)⟩
  ·obtain ⟨e,n,ne,nf,d⟩:=I.pin p hp;exact ⟨(hs.2 p.1 ne).trans e,n,ne,nf,d⟩
 ·have hfn:X.fn x=true:=by
   rcases hf with z|z
   ·exact z
   ·rw [z] at hk;cases hk
  obtain ⟨c,hc⟩:=I.ok.has x (.inl hk);obtain ⟨w',z⟩:=I.cell x c hc;refine wpAny_storeName_cell I.ok.kind hk hc z (λh' hc' hs=>?_);obtain ⟨oc,hoc,ZT⟩:=id z;refine h {s with heap:=h'} ⟨I.ok,I.os,I.bare,⟨λb o e n hb hx=>?_,λb o e n hb hx=>?_,I.base.free,λb o e hx=>?_,I.base.uD,I.base.vR,I.base.yY⟩,⟨m,hn.sameBut hs (fc (SF x c hc)),λj y v' e1 e2 e3=>?_⟩,λy c' e=>?_,I.free,I.kZ,λp hp=>?_,tracked ⟨oc,hoc,I.kZ x c hc⟩ hs,by simpa using I.len⟩ ⟨c,hs, .inr hc⟩
  ·exact (hs.2 b (bH (bu (Heap.lt_size e) (I.ok.WG x c hfn hc)))).trans (I.base.keep b o e n hb hx)
  ·obtain ⟨sl,e1⟩:=I.base.slot b o e n hb hx;exact ⟨sl,(hs.2 b (bH (bu (Heap.lt_size e) (I.ok.WG x c hfn hc)))).trans e1⟩
  ·obtain ⟨o',e1⟩:=I.base.there b o e hx;exact ⟨o',(hs.2 b (bH (bu (Heap.lt_size e) (I.ok.WG x c hfn hc)))).trans e1⟩
  ·by_cases hj:j=i
   ·subst hj;rw [hi] at e1;cases e1;rw [mU V0] at e2;cases e2;exact ⟨u,r, .inr ⟨.inl hk,c,hc,hc'⟩⟩
   ·rw [o8 (fc hj)] at e2;obtain ⟨u',r',q⟩:=hl j y v' e1 e2 e3;refine ⟨u',r',?_⟩;rcases q with q|⟨k,c',e,z'⟩
    ·exact .inl q
    ·refine .inr ⟨k,c',e,z'.sameBut hs ?_⟩;rintro rfl;exact hj (vt hN e1 (I.ok.inj _ _ _ e hc▸hi))
  ·by_cases nv:c'=c
   ·subst nv;exact ⟨_,hc'⟩
   ·obtain ⟨w2,z2⟩:=I.cell y c' e;exact ⟨w2,z2.sameBut hs nv⟩
  ·obtain ⟨e,n,ne,nf,d⟩:=I.pin p hp;refine ⟨(hs.2 p.1 ?_).trans e,n,ne,nf,d⟩;intro q;rw [q,hoc] at e;have q':oc=p.2:=bx e;exact d w' (by rw [<-q'];exact ZT)
theorem AM {M:Model} {A:af3} {E:Value->afU->Prop} {i:Nat} {x:Str} {v:V} {u:Value} {Q:Unit->afU->Prop} (I:Inv X pins σ H s) (hN:X.N.Nodup) (hi:X.N[i]?=some x) (hx:Loc X.env.scope x) (r:RelV v u)
  (h: ∀s',Inv X pins (σ.set i (some v)) H s'->Q () s') (hf:X.fn x=true∨X.env.scope.names.lookup x=some .local:=by first|exact .inl rfl|exact .inr rfl|assumption):wpAny M A (storeName X.env x u) Q E s:=
 xH I hN hi hx r (λs' I' _=>h s' I') hf
theorem Inv.WF {s':afU} {ch:List Addr} (I:Inv X pins σ H s) (ho:s'.os=s.os) (u:Un (Lp X.stack) ch H H' s.heap s'.heap) (cN:nT X.prog X.w H' s'.heap) (hg:AllBare s'.gens)
  (Ay: ∀b∈ch,(b∈X.ex∨X.xQ.heap.objs.size<=b)/\b≠X.env.locals/\(∀x c,X.env.cells.lookup x=some c->c≠b)/\∀p∈X.pn++pins,p.1≠b):Inv X pins σ H' s':=by
 obtain ⟨h',g',d',t',o'⟩:=s';have e:o'=s.os:=ho;subst e;exact I.call (g':=g') (t':=t') (d':=d') u cN hg Ay
end
abbrev XK:=Value->Option Addr->Hp->Prop
abbrev St:=List (Option V)
abbrev VK:=V->Hp->Prop
abbrev TE:=St->Hp->VK->Prop
abbrev TT:=St->Hp->(Bool->Hp->Prop)->Prop
abbrev TA:=St->Hp->(List V->Hp->Prop)->Prop
structure Ends where
 nx:St->Hp->Prop
 rt:VK
 bk:St->Hp->Prop:=λ_ _=>False
 ct:St->Hp->Prop:=λ_ _=>False
abbrev TS:=Ends->St->Hp->Prop
def EP (X:Cx) (pins:List (Addr×Obj)) (σ:St) (Q:VK) (u:Value) (s':afU):Prop:= ∃v H',Inv X pins σ H' s'/\RelV v u/\Q v H'
def TP (X:Cx) (pins:List (Addr×Obj)) (σ:St) (Q:Bool->Hp->Prop) (b:Bool) (s':afU):Prop:= ∃H',Inv X pins σ H' s'/\Q b H'
def AP (X:Cx) (pins:List (Addr×Obj)) (σ:St) (Q:List V->Hp->Prop) (us:List Value) (s':afU):Prop:= ∃vs H',Inv X pins σ H' s'/\Vals vs us/\Q vs H'
def SP (X:Cx) (pins:List (Addr×Obj)) (D:Ends) (f:Flow) (s':afU):Prop:=
 match f with
 | .next=> ∃eM H',Inv X pins eM H' s'/\D.nx eM H'
 | .brk=> ∃eM H',Inv X pins eM H' s'/\D.bk eM H'
 | .cont=> ∃eM H',Inv X pins eM H' s'/\D.ct eM H'
 | .ret u=> ∃v eM H',Inv X pins eM H' s'/\RelV v u/\D.rt v H'
def PE (X:Cx) (e:af0) (t:TE):Prop:=
 ∀(pins:List (Addr×Obj)) (s:afU) (σ:St) (H:Hp) (Q:VK),Inv X pins σ H s->t σ H Q->wpAny (afY X.prog X.w) X.A (eval e X.env) (EP X pins σ Q) X.xe s
def PT (X:Cx) (e:af0) (t:TT):Prop:=
 ∀(pins:List (Addr×Obj)) (s:afU) (σ:St) (H:Hp) (Q:Bool->Hp->Prop),Inv X pins σ H s->t σ H Q->wpAny (afY X.prog X.w) X.A (isTrue e X.env (eval e X.env)) (TP X pins σ Q) X.xe s
def PW (X:Cx) (e:af0) (t:TT):Prop:=
 ∀(whole:Sem Value) (pins:List (Addr×Obj)) (s:afU) (σ:St) (H:Hp) (Q:Bool->Hp->Prop),Inv X pins σ H s->t σ H Q->wpAny (afY X.prog X.w) X.A (isTrue e X.env whole) (TP X pins σ Q) X.xe s
theorem PW.pt {X:Cx} {e:af0} {t:TT} (h:PW X e t):PT X e t:=h _
def PA (X:Cx) (es:List af0) (t:TA):Prop:=
 ∀(pos:Pos) (pins:List (Addr×Obj)) (s:afU) (σ:St) (H:Hp) (Q:List V->Hp->Prop),Inv X pins σ H s->t σ H Q->wpAny (afY X.prog X.w) X.A (spliced (af9 pos (af1 es X.env))) (AP X pins σ Q) X.xe s
def PS (X:Cx) (st:af6) (t:TS):Prop:=
 ∀(pins:List (Addr×Obj)) (s:afU) (σ:St) (H:Hp) (D:Ends),Inv X pins σ H s->t D σ H->wpAny (afY X.prog X.w) X.A (exec st X.env) (SP X pins D) X.xe s
def Du (X:Cx) (st:List af6) (t:TS):Prop:=
 ∀(pins:List (Addr×Obj)) (s:afU) (σ:St) (H:Hp) (D:Ends),Inv X pins σ H s->t D σ H->wpAny (afY X.prog X.w) X.A (execs st X.env) (SP X pins D) X.xe s
theorem dD {α:Type} {t:Sem α} {Q Q':α->afU->Prop} {M:Model} {A:af3} {E:Value->afU->Prop} {s:afU} (h:wpAny M A t Q E s) (hQ: ∀a s,Q a s->Q' a s):wpAny M A t Q' E s:=wpAny_mono h hQ λ_ _ x=>x
end L2
namespace L2
open PySem PySem.Spec PyProof.Rows
section
variable {X:Cx}
inductive Qu (i:Nat) (σ:St) (H:Hp) (Q:VK):Prop
 |mk (v:V):(σ[i]?=some (some v))->(Q v H)->Qu i σ H Q
def yZ (i:Nat):TE:=λσ H Q=>Qu i σ H Q
def tC (v:V):TE:=λ_ H Q=>Q v H
theorem Rf {i:Nat} {x:Str} {pos:Pos} (hN:X.N[i]?=some x) (hv:WK X.env.scope x) (hd:(x==("__debug__" :Str))=false:=by decide) (Ii:(x==("__classdict__" :Str))=false:=by decide):PE X (.Name x pos) (yZ i):=by
 intro pins s σ H Q I h;obtain ⟨v,e,h⟩:=h;obtain ⟨m,hn,hl⟩:=I.loc;obtain ⟨u,r,l⟩:=hl i x v hN e hv;have fin:EP X pins σ Q u s:=⟨v,H,I,r,h⟩
 rcases l with ⟨hk,hm⟩|⟨hk,c,hc,P8⟩
 ·exact wpAny_Name (wpAny_loadName_local I.ok.kind hk hn hm fin) hd
 ·rcases hk with hk|hk
  ·exact wpAny_Name (wpAny_loadName_cell I.ok.kind hk hc P8 fin) hd
  ·exact wpAny_Name (wpAny_loadName_free I.ok.kind hk hc P8 fin Ii) hd
theorem aF {i j pos}:PE X (.Constant (.int i) j pos) (tC (.int i)):=λ_ _ _ H _ I h=>wpAny_Constant_int ⟨.int i,H,I.tok _,⟨_,rfl⟩,h⟩
theorem iu {b j pos}:PE X (.Constant (.bool b) j pos) (tC (.bl b)):=λ_ _ _ H _ I h=>Constant_bool ⟨.bl b,H,I,rfl,h⟩
theorem lS {j pos}:PE X (.Constant .none j pos) (tC .fE):=λ_ _ _ H _ I h=>Constant_none ⟨.fE,H,I,rfl,h⟩
def Gl (X:Cx) (x:Str):Prop:=X.env.kindOf x=some .globalImplicit
theorem uh {E:Value->afU->Prop} {pins:List (Addr×Obj)} {s:afU} {σ:St} {H:Hp} {x:Str} {u:Value} {pos:Pos} {Q:Value->afU->Prop} (I:Inv X pins σ H s) (hg:Gl X x) (hm:X.mg x=some u) (h:Q u s)
  (hd:(x==("__debug__" :Str))=false:=by decide):wpAny (afY X.prog X.w) X.A (eval (.Name x pos) X.env) Q E s:=
 Calls.Name_function_global I.ok.kind hg (Calls.loadGlobal_global (by rw [I.ok.glob];exact I.mod.glob.keeps I.bk) hm h) hd
theorem lZ {E:Value->afU->Prop} {pins:List (Addr×Obj)} {s:afU} {σ:St} {H:Hp} {x:Str} {u:Value} {pos:Pos} {Q:Value->afU->Prop} (I:Inv X pins σ H s) (hg:Gl X x) (hm:X.mg x=none) (hv:agK x=some u) (h:Q u s)
  (hn:x≠"__name__" :=by decide) (hd:(x==("__debug__" :Str))=false:=by decide):wpAny (afY X.prog X.w) X.A (eval (.Name x pos) X.env) Q E s:=by
 obtain ⟨mb,h1,h2⟩:=I.mod.blt;exact Calls.Name_function_global I.ok.kind hg (Calls.loadGlobal_builtin (by rw [I.ok.glob];exact I.mod.glob.keeps I.bk) hm (by rw [I.ok.blt];exact h1.keeps I.bk) ((h2 x hn).trans hv) h) hd
theorem FJ {x:Str} {v:V} {u:Value} {pos:Pos} (hg:Gl X x) (hm:X.mg x=some u) (r:RelV v u) (hd:(x==("__debug__" :Str))=false:=by decide):PE X (.Name x pos) (tC v):=
 λ_ _ _ H _ I h=>uh I hg hm ⟨v,H,I,r,h⟩ hd
variable {a b:af0} {ta tb:TE} {pos:Pos}
def PC (X:Cx) (op:CmpOp) (a b:af0) (t:TE):Prop:=
 ∀(pins:List (Addr×Obj)) (s:afU) (σ:St) (H:Hp) (Q:VK),Inv X pins σ H s->t σ H Q->
  wpAny (afY X.prog X.w) X.A (eval a X.env) (λv dz=>wpAny (afY X.prog X.w) X.A (eval b X.env) (λu kh=>wpAny (afY X.prog X.w) X.A (age op v u) (EP X pins σ Q) X.xe kh) X.xe dz) X.xe s
theorem BD (b:af0) {op:CmpOp} (h:op≠ .In) (h2:op≠ .NotIn):agr op b=false:=by
 have e1:(op==CmpOp.In)=false:=by cases op<;>first|rfl|exact absurd rfl h
 have e2:(op==CmpOp.NotIn)=false:=by cases op<;>first|rfl|exact absurd rfl h2
 cases b<;>simp [agr,e1,e2]
def Yv (ta:TE):TE:=λσ H Q=>ta σ H λx H1=>Q (.bl (decide (x= .fE))) H1
def Ud (ta:TE):TE:=λσ H Q=>ta σ H λx H1=>Q (.bl (!decide (x= .fE))) H1
theorem RelV.BC {x:V} {v:Value} (r:RelV x v):(v==Value.none)=decide (x= .fE):=by
 cases x with
 |fE=>cases r;rfl
 |bl _=>cases r;rfl
 |int _=>obtain ⟨t,rfl⟩:=r;rfl
 |str _=>obtain ⟨t,rfl⟩:=r;rfl
 |Ac _=>obtain ⟨t,rfl⟩:=r;rfl
 |Wt _=>obtain ⟨t,rfl⟩:=r;rfl
 |ref _=>cases r;rfl
 |ty _=>cases r;rfl
theorem jE {j pos'} (ha:PE X a ta):PC X .Is a (.Constant .none j pos') (Yv ta):=by
 intro pins s σ H Q I h;refine dD (ha pins s σ H _ I h) λv s1 ⟨x,H1,I1,r1,q1⟩=>?_;exact Constant_none (is_none_gen ⟨.bl _,H1,I1,by rw [r1.BC];rfl,q1⟩)
theorem FK {j pos'} (ha:PE X a ta):PC X .IsNot a (.Constant .none j pos') (Ud ta):=by
 intro pins s σ H Q I h;refine dD (ha pins s σ H _ I h) λv s1 ⟨x,H1,I1,r1,q1⟩=>?_;exact Constant_none (isnot_none_gen ⟨.bl _,H1,I1,by rw [r1.BC];rfl,q1⟩)
inductive IBl (x:V) (H:Hp) (Q:Bool->Hp->Prop):Prop
 |mk (c:Bool):x= .bl c->Q c H->IBl x H Q
def tB (t:TE):TT:=λσ H Q=>t σ H λx H1=>IBl x H1 Q
theorem Kv {op:CmpOp} {t:TE} (h:PC X op a b t) (h1:agr op b=false:=by first|exact BD _ (by decide) (by decide)|rfl):PE X (.Compare a [op] [b] pos) t:=λpins s σ H Q I hw=>wpAny_Compare1 (h pins s σ H Q I hw) h1
theorem fT {op:CmpOp} {t:TE} (h:PC X op a b t) (h1:agr op b=false:=by first|exact BD _ (by decide) (by decide)|rfl):PT X (.Compare a [op] [b] pos) (tB t):=by
 intro pins s σ H Q I hw;refine wpAny_isTrue_Compare1 (dD (h pins s σ H _ I hw) λv s1 h1=>dD h1 λu s2 h2=>dD h2 λc s3 ⟨x,H1,I1,r1,q1⟩=>?_) h1;obtain ⟨d,rfl,q⟩:=q1;cases r1;exact agu ⟨H1,I1,q⟩
theorem eK {e:af0} {t:TE} (h:PE X e t) (he: ∀whole,isTrue e X.env whole=(do let v<-whole;standAt e.pos;agL [v] (truthy v)):=by intro _;rfl):PT X e (tB t):=by
 intro pins s σ H Q I hw;refine isTrue_plain (dD (h pins s σ H _ I hw) λv s1 ⟨x,H1,I1,r1,q1⟩=>?_) (he _);obtain ⟨d,rfl,q⟩:=q1;cases r1;exact agu ⟨H1,I1,q⟩
variable {tA Xa:TT} {rest:List af0}
def YA (t u:TT):TT:=λσ H Q=>t σ H λc H1=>if c=true then u σ H1 Q else Q false H1
def tOr (t u:TT):TT:=λσ H Q=>t σ H λc H1=>if c=true then Q true H1 else u σ H1 Q
def Ue (t:TT):TT:=λσ H Q=>t σ H λc H1=>Q (!c) H1
theorem lQ (ha:PT X a tA):PW X (.BoolOp .And [a] pos) tA:=by
 intro wh pins s σ H Q I h;refine isTrue_and (dD (ha pins s σ H Q I h) λc s1 e=>?_);cases c with
 |true=>exact isTrue_and_nil e
 |false=>exact e
theorem DZ (ha:PT X a tA):PW X (.BoolOp .Or [a] pos) tA:=by
 intro wh pins s σ H Q I h;refine isTrue_or (dD (ha pins s σ H Q I h) λc s1 e=>?_);cases c with
 |false=>exact isTrue_or_nil e
 |true=>exact e
theorem pG (ha:PT X a tA) (hb:PW X (.BoolOp .And (b::rest) pos) Xa):PW X (.BoolOp .And (a::b::rest) pos) (YA tA Xa):=by
 intro wh pins s σ H Q I h;refine isTrue_and (dD (ha pins s σ H _ I h) λc s1 ⟨H1,I1,q1⟩=>?_);cases c with
 |true=>exact hb wh pins s1 σ H1 Q I1 q1
 |false=>exact ⟨H1,I1,q1⟩
theorem Bd (ha:PT X a tA) (hb:PW X (.BoolOp .Or (b::rest) pos) Xa):PW X (.BoolOp .Or (a::b::rest) pos) (tOr tA Xa):=by
 intro wh pins s σ H Q I h;refine isTrue_or (dD (ha pins s σ H _ I h) λc s1 ⟨H1,I1,q1⟩=>?_);cases c with
 |true=>exact ⟨H1,I1,q1⟩
 |false=>exact hb wh pins s1 σ H1 Q I1 q1
theorem ii (ha:PT X a tA):PT X (.UnaryOp .Not a pos) (Ue tA):=by
 intro pins s σ H Q I h;exact isTrue_not (ha pins s σ H (λc H1=>Q (!c) H1) I h)
def Uo (ta tb:TE):TE:=λσ H Q=>ta σ H λx H1=> ∃c,x= .bl c/\if c=true then tb σ H1 Q else Q (.bl false) H1
theorem jD {op} {t:TE} (h:PE X a t):PE X (.BoolOp op [a] pos) t:=λpins s σ H Q I hw=>BoolOp_one (h pins s σ H Q I hw)
theorem d7 (ha:PE X a ta) (hb:PE X (.BoolOp .And (b::rest) pos) tb):PE X (.BoolOp .And (a::b::rest) pos) (Uo ta tb):=by
 intro pins s σ H Q I h;refine BoolOp_and (dD (ha pins s σ H _ I h) λv s1 ⟨x,H1,I1,r1,q1⟩=>?_);obtain ⟨c,rfl,q1⟩:=q1;cases r1;refine agu ?_;cases c with
 |true=>exact hb pins s1 σ H1 Q I1 q1
 |false=>exact ⟨.bl false,H1,I1,rfl,q1⟩
def tIf (t:TT) (ta tb:TE):TE:=λσ H Q=>t σ H λc H1=>if c=true then ta σ H1 Q else tb σ H1 Q
theorem Bt {c:af0} (hc:PT X c tA) (ha:PE X a ta) (hb:PE X b tb):PE X (.IfExp c a b pos) (tIf tA ta tb):=by
 intro pins s σ H Q I h;refine wpAny_IfExp (dD (hc pins s σ H _ I h) λd s1 ⟨H1,I1,q1⟩=>?_);cases d with
 |true=>exact ha pins s1 σ H1 Q I1 q1
 |false=>exact hb pins s1 σ H1 Q I1 q1
end
end L2
namespace L2
open PySem PySem.Spec PyProof.Rows
def iL (K:aa) (H:Hp) (a:Addr) (xs:List V):Prop:=
 Rd H a (.lst xs)∨
  ∃(o:Obj) (its:Array Value) (n:Nat),K.lookup a=some o/\o.cls= .type "list"/\o.dict=none/\o.data= .seq its n/\its.size<=sizeLine/\Vals xs its.toList
def Ah (K:aa) (H:Hp) (a:Addr) (xs:List V):Prop:=
 Rd H a (.tup xs)∨
  ∃(o:Obj) (its:Array Value) (n:Nat),K.lookup a=some o/\o.cls= .type "tuple"/\o.data= .seq its n/\its.size<=sizeLine/\Vals xs its.toList
def aaR:Value->Option V
 | .none=>some .fE
 | .bool b=>some (.bl b)
 | .int i _=>some (.int i)
 | .str x _=>some (.str x)
 | .bytes b _=>some (.Ac b)
 | .float b _=>some (.Wt b)
 | .ref a=>some (.ref a)
 | .type n=>some (.ty n)
 |_=>none
theorem RelV.abs {x:V} {u:Value} (r:RelV x u):aaR u=some x:=by
 cases x with
 |fE=>cases r;rfl
 |bl _=>cases r;rfl
 |int _=>obtain ⟨t,rfl⟩:=r;rfl
 |str _=>obtain ⟨t,rfl⟩:=r;rfl
 |Ac _=>obtain ⟨t,rfl⟩:=r;rfl
 |Wt _=>obtain ⟨t,rfl⟩:=r;rfl
 |ref _=>cases r;rfl
 |ty _=>cases r;rfl
theorem RelV.inj {x y:V} {u:Value} (r:RelV x u) (q:RelV y u):x=y:=bx (r.abs.symm.trans q.abs)
theorem Vals.inj: ∀{xs ys:List V} {us:List Value},Vals xs us->Vals ys us->xs=ys
 |_,_,_, .nil, .nil=>rfl
 |_,_,_, .cons r t, .cons r' t'=>by rw [r.inj r',Vals.inj t t']
section
variable {X:Cx} {pins:List (Addr×Obj)} {σ:St} {H:Hp} {s:afU} {a:Addr} {xs ys:List V}
theorem iL.of {K:aa} (h:H a=some (.lst xs)):iL K H a xs:= .inl (.inl h)
theorem Ah.of {K:aa} (h:H a=some (.tup xs)):Ah K H a xs:= .inl (.inl h)
theorem Inv.list (I:Inv X pins σ H s) (h:iL X.K H a xs): ∃its:List Value,Vals xs its/\PlainL s.heap a its.toArray/\xs.length<=sizeLine:=by
 rcases h with h|⟨o,its,n,hk,hc,hd,hs,hz,r⟩
 ·obtain ⟨z,its,n,r,e⟩:=h.ok I.cN;exact ⟨its,r,⟨_,n,e,rfl,rfl,rfl⟩,z⟩
 ·refine ⟨its.toList,r,⟨o,n,I.FZ a o hk,hc,hd,by simpa using hs⟩,?_⟩;have e:=r.length;simp only [gU] at e;omega
theorem Inv.tuple (I:Inv X pins σ H s) (h:Ah X.K H a xs): ∃its:List Value,Vals xs its/\IsTup s.heap a its.toArray/\xs.length<=sizeLine:=by
 rcases h with h|⟨o,its,n,hk,hc,hs,hz,r⟩
 ·obtain ⟨z,its,r,p⟩:=h.ok I.cN;exact ⟨its,r,p,z⟩
 ·refine ⟨its.toList,r,⟨o,I.FZ a o hk,hc,n,by simpa using hs⟩,?_⟩;have e:=r.length;simp only [gU] at e;omega
theorem Inv.nn (I:Inv X pins σ H s) (h:iL X.K H a xs) (h':iL X.K H a ys):xs=ys:=by
 obtain ⟨its,r,⟨o,n,e,_,_,d⟩,_⟩:=I.list h;obtain ⟨its',r',⟨o',n',e',_,_,d'⟩,_⟩:=I.list h';rw [e] at e';cases e';rw [d] at d';injection d' with d1 _;have:its=its':=by simpa using congrArg S4 d1
 subst this;exact r.inj r'
end
abbrev Cx.wZ (X:Cx) (E:Value->afU->Prop):Cx:={X with xe:=E}
abbrev Cx.HH (X:Cx):Cx:=X.wZ λ_ _=>False
theorem Cx.Ok.wZ {X:Cx} (ok:X.Ok) (E:Value->afU->Prop):(X.wZ E).Ok:=
 ⟨ok.mod,ok.kind,ok.glob,ok.blt,ok.above,ok.inj,ok.has,ok.WG,ok.hd,ok.frames,ok.Xb,ok.XR,ok.bs,ok.Pe,ok.KG,ok.Md,ok.tH,ok.Sb⟩
theorem Cx.Ok.mZ {X:Cx} {E:Value->afU->Prop} (ok:(X.wZ E).Ok):X.Ok:=
 ⟨ok.mod,ok.kind,ok.glob,ok.blt,ok.above,ok.inj,ok.has,ok.WG,ok.hd,ok.frames,ok.Xb,ok.XR,ok.bs,ok.Pe,ok.KG,ok.Md,ok.tH,ok.Sb⟩
section
variable {X:Cx} {pins:List (Addr×Obj)} {σ:St} {H:Hp} {s:afU} {E:Value->afU->Prop}
theorem Inv.wZ (I:Inv X pins σ H s) (E:Value->afU->Prop):Inv (X.wZ E) pins σ H s:=⟨I.ok.wZ E,I.os,I.bare,I.base,I.loc,I.cell,I.free,I.kZ,I.pin,I.cN,I.len⟩
theorem Inv.mZ (I:Inv (X.wZ E) pins σ H s):Inv X pins σ H s:=⟨I.ok.mZ,I.os,I.bare,I.base,I.loc,I.cell,I.free,I.kZ,I.pin,I.cN,I.len⟩
theorem SP.mZ {D:Ends} {f:Flow} {s':afU} (h:SP (X.wZ E) pins D f s'):SP X pins D f s':=by
 cases f with
 |next=>obtain ⟨eM,H',I,q⟩:=h;exact ⟨eM,H',I.mZ,q⟩
 |brk=>obtain ⟨eM,H',I,q⟩:=h;exact ⟨eM,H',I.mZ,q⟩
 |cont=>obtain ⟨eM,H',I,q⟩:=h;exact ⟨eM,H',I.mZ,q⟩
 |ret u=>obtain ⟨v,eM,H',I,r,q⟩:=h;exact ⟨v,eM,H',I.mZ,r,q⟩
theorem Du.HH {st:List af6} {t:TS} (h:Du X.HH st t):Du X st t:=λpins s σ H D I hw=>
 wpAny_mono (h pins s σ H D (I.wZ _) hw) (λ_ _ q=>q.mZ) λ_ _ z=>de z
end
section
variable {X:Cx} {st:af6} {rest:List af6} {t u:TS} {e:af0} {te:TE} {pos:Pos}
def Pw:TS:=λD σ H=>D.nx σ H
def bY (t u:TS):TS:=λD σ H=>t {D with nx:=u D} σ H
theorem bI:Du X [] Pw:=λ_ _ σ H _ I h=>ag4 ⟨σ,H,I,h⟩
theorem am (h1:PS X st t) (h2:Du X rest u):Du X (st::rest) (bY t u):=by
 intro pins s σ H D I h;refine wpAny_execs_cons (dD (h1 pins s σ H {D with nx:=u D} I h) λf s1 q=>?_);cases f with
 |next=>
  obtain ⟨eM,H',I',q⟩:=q;exact h2 pins s1 eM H' D I' q
 |ret v=>exact q
 |brk=>exact q
 |cont=>exact q
theorem aA (h1:PS X st t):Du X [st] t:=by
 intro pins s σ H D I h;refine wpAny_execs_cons (dD (h1 pins s σ H D I h) λf s1 q=>?_);cases f with
 |next=>exact ag4 q
 |ret v=>exact q
 |brk=>exact q
 |cont=>exact q
theorem Inv.quiet {pins:List (Addr×Obj)} {σ:St} {H:Hp} {s:afU} (I:Inv X pins σ H s):interactive X.env=false:=by simp [interactive,I.ok.kind]
def Uk (te:TE):TS:=λD σ H=>te σ H λ_ H1=>D.nx σ H1
theorem eD (he:PE X e te) (hs:agv e none pos.line X.env=pure false:=by rfl):PS X (.Expr e pos) (Uk te):=by
 intro pins s σ H D I h;exact wpAny_Expr_any (dD (he pins s σ H _ I h) λv s1 ⟨x,H1,I1,r1,q1⟩=>⟨σ,H1,I1,q1⟩) I.quiet hs
def Ub (te:TE):TS:=λD σ H=>te σ H D.rt
theorem aX (he:PE X e te):PS X (.Return (some e) pos) (Ub te):=by
 intro pins s σ H D I h;exact wpAny_Return_some (dD (he pins s σ H _ I h) λv s1 ⟨x,H1,I1,r1,q1⟩=>⟨x,σ,H1,I1,r1,q1⟩)
def Uj (c:TT) (t u:TS):TS:=λD σ H=>c σ H λb H1=>if b=true then t D σ H1 else u D σ H1
theorem cE {c:af0} {a b:List af6} {tc:TT} (hc:PT X c tc) (ha:Du X a t) (hb:Du X b u):PS X (.If c a b pos) (Uj tc t u):=by
 intro pins s σ H D I h;refine wpAny_If (dD (hc pins s σ H _ I h) λd s1 ⟨H1,I1,q1⟩=>?_);cases d with
 |true=>exact ha pins s1 σ H1 D I1 q1
 |false=>exact hb pins s1 σ H1 D I1 q1
end
abbrev TG:=V->St->Hp->(St->Hp->Prop)->Prop
abbrev Nf:=List V->St->Hp->(St->Hp->Prop)->Prop
def PG (X:Cx) (target:af0) (t:TG):Prop:=
 ∀(pins:List (Addr×Obj)) (s:afU) (σ:St) (H:Hp) (v:V) (u:Value) (Q:St->Hp->Prop),Inv X pins σ H s->RelV v u->t v σ H Q->
  wpAny (afY X.prog X.w) X.A (assign target X.env u) (λ_ s'=> ∃eM H',Inv X pins eM H' s'/\Q eM H') X.xe s
def WQ (X:Cx) (ts:List af0) (t:Nf):Prop:=
 ∀(pins:List (Addr×Obj)) (s:afU) (σ:St) (H:Hp) (vs:List V) (us:List Value) (Q:St->Hp->Prop),Inv X pins σ H s->Vals vs us->t vs σ H Q->
  wpAny (afY X.prog X.w) X.A (assignInOrder ((agw ts X.env).map (·.2)) us) (λ_ s'=> ∃eM H',Inv X pins eM H' s'/\Q eM H') X.xe s
abbrev SR:=V->V->V->Hp->(Hp->Prop)->Prop
def WO (X:Cx) (t:SR):Prop:=
 ∀(pins:List (Addr×Obj)) (s:afU) (σ:St) (H:Hp) (o i v:V) (ov iv u:Value) (Q:Hp->Prop),Inv X pins σ H s->RelV o ov->RelV i iv->RelV v u->t o i v H Q->
  wpAny (afY X.prog X.w) X.A (setItem ov iv u) (λ_ s'=> ∃H',Inv X pins σ H' s'/\Q H') X.xe s
section
variable {X:Cx} {pos:Pos}
def vQ (i:Nat):TG:=λv σ H Q=>Q (σ.set i (some v)) H
theorem N5 {i:Nat} {x:Str} (hN:X.N.Nodup) (hi:X.N[i]?=some x) (hx:Loc X.env.scope x) (hf:X.fn x=true∨X.env.scope.names.lookup x=some .local:=by first|exact .inl rfl|exact .inr rfl|assumption):PG X (.Name x pos) (vQ i):=by
 intro pins s σ H v u Q I r h;exact wpAny_assign_Name (AM I hN hi hx r (λs' I'=>⟨_,H,I',h⟩) hf)
def aaw:Nf:=λvs σ H Q=>vs= []/\Q σ H
inductive MM (t:TG) (u:Nf) (vs:List V) (σ:St) (H:Hp) (Q:St->Hp->Prop):Prop
 |mk (v:V) (r:List V):(vs=v::r)->(t v σ H λeM H'=>u r eM H' Q)->MM t u vs σ H Q
def Wj (t:TG) (u:Nf):Nf:=λvs σ H Q=>MM t u vs σ H Q
theorem gX:WQ X [] aaw:=by
 intro pins s σ H vs us Q I r h;obtain ⟨e,h⟩:=h;subst e;cases r;exact assignInOrder_nil ⟨σ,H,I,h⟩
theorem cF {e:af0} {es:List af0} {t:TG} {u:Nf} (h1:PG X e t) (h2:WQ X es u)
  (hs:(agw (e::es) X.env).map (·.2)=assign e X.env::(agw es X.env).map (·.2):=by rfl):WQ X (e::es) (Wj t u):=by
 intro pins s σ H vs us Q I r h;obtain ⟨v,vr,e1,h⟩:=h;subst e1;cases r with
 |cons r rr=>
  rw [hs];refine assignInOrder_cons (dD (h1 pins s σ H _ _ _ I r h) λ_ s1 ⟨S5,H1,I1,q1⟩=>?_);exact h2 pins s1 S5 H1 _ _ Q I1 rr q1
inductive QF (K:aa) (n:Nat) (t:Nf) (v:V) (σ:St) (H:Hp) (Q:St->Hp->Prop):Prop
 |mk (a:Addr) (xs:List V):(v= .ref a)->(Ah K H a xs)->(xs.length=n)->(t xs σ H Q)->QF K n t v σ H Q
def Wi (K:aa) (n:Nat) (t:Nf):TG:=λv σ H Q=>QF K n t v σ H Q
theorem km {es:List af0} {k:Nat} {t:Nf} {n:Nat} (hc:X.calm=true) (h:WQ X es t)
  (hn:(agw es X.env).length=n:=by rfl) (RP:(agw es X.env).findIdx? (·.1)=none:=by rfl):PG X (.Tuple es k pos) (Wi X.K n t):=by
 intro pins s σ H v u Q I r hw;obtain ⟨a,xs,e1,hq,hl,hw⟩:=hw;subst e1;cases r;obtain ⟨its,rv,ht,hz⟩:=I.tuple hq;refine assign_Tuple_tuple (I.ok.hd hc) ht (by simp [hn, <-hl,rv.length]) RP λh' hx=>?_;have I1:Inv X pins σ H {s with heap:=h'}:=I.kept (t':=s.toks) λb o e=>hx b o (bH (Heap.lt_size e)) e;exact h pins _ σ H xs _ Q I1 (by simpa using rv) hw
def aav (to ti:TE) (t:SR):TG:=λv σ H Q=>to σ H λo H1=>ti σ H1 λi H2=>t o i v H2 λH3=>Q σ H3
theorem Re {o i:af0} {to ti:TE} {t:SR} (ho:PE X o to) (hi:PE X i ti) (hs:WO X t)
  (ha: ∀v,assign (.Subscript o i pos) X.env v=(do
   let ov<-agL [v] (eval o X.env);let iv<-agL [v,ov] (eval i X.env)
   standAt pos
   agL [v,ov,iv] (setItem ov iv v)
   release [v,ov,iv] []):=by intro _;rfl):PG X (.Subscript o i pos) (aav to ti t):=by
 intro pins s σ H v u Q I r h;rw [ha];refine afX (agp (dD (ho pins s σ H _ I h) λov s1 ⟨x,H1,I1,r1,q1⟩=>?_));refine afX (agp (dD (hi pins s1 σ H1 _ I1 q1) λiv s2 ⟨y,H2,I2,r2,q2⟩=>?_));refine afX (agV (afX (agp (dD (hs pins s2 σ H2 x y v ov iv u _ I2 r1 r2 r q2) λ_ s3 ⟨H3,I3,q3⟩=>?_))));exact wpAny_release ⟨σ,H3,I3,q3⟩
def ND (te:TE) (g:TG):TS:=λD σ H=>te σ H λx H1=>g x σ H1 D.nx
theorem Rc {tg e:af0} {te:TE} {g:TG} (he:PE X e te) (hg:PG X tg g) (hs:swapsWithSole [tg] e pos.line X.env=pure false:=by rfl) (hw:swappedStores [tg] e X.env=pure none:=by rfl)
  (h1:(agw [tg] X.env).map (·.2)= [assign tg X.env]:=by rfl):PS X (.Assign [tg] e pos) (ND te g):=by
 intro pins s σ H D I h;refine wpAny_Assign_stores (dD (he pins s σ H _ I h) λv s1 ⟨x,H1,I1,r1,q1⟩=>?_) hs hw;rw [h1];exact dD (hg pins s1 σ H1 x v _ I1 r1 q1) λ_ s2 q=>q
theorem Rb {i:Nat} {x:Str} {e:af0} {te:TE} {pos':Pos} (hN:X.N.Nodup) (hi:X.N[i]?=some x) (hx:Loc X.env.scope x) (he:PE X e te) (hs:agv e (some (.Name x pos')) pos.line X.env=pure false:=by rfl) (hf:X.fn x=true∨X.env.scope.names.lookup x=some .local:=by first|exact .inl rfl|exact .inr rfl|assumption):
  PS X (.Assign [.Name x pos'] e pos) (ND te (vQ i)):=by
 intro pins s σ H D I h;refine wpAny_Assign_Name (dD (he pins s σ H _ I h) λv s1 ⟨y,H1,I1,r1,q1⟩=>?_) hs;exact AM I1 hN hi hx r1 (λs2 I2=>⟨_,H1,I2,q1⟩) hf
end
section
variable {X:Cx} {pos:Pos}
def QO (c:TT) (tb:TS):TS:=λD σ H=> ∃W:Nat->St->Hp->Prop,(∃m,W m σ H)/\∀m σ H,W m σ H->
 c σ H λb H1=>if b=true then∃N:St->Hp->Prop,(∀eM H',N eM H'->∃m',m'<m/\W m' eM H')/\tb {D with nx:=N,ct:=N,bk:=D.nx} σ H1 else D.nx σ H1
theorem vc {c:af0} {body:List af6} {tc:TT} {tb:TS} (hp:PassesOwn (afY X.prog X.w) X.A X.env X.xe) (hc:PT X c tc) (hb:Du X body tb):PS X (.While c body [] pos) (QO tc tb):=by
 intro pins s σ H D I h;obtain ⟨W,⟨m0,w0⟩,turn⟩:=h;refine wpAny_While (codeAny_whileLoop (λn s'=> ∃eM H',Inv X pins eM H' s'/\W n eM H') ?_ m0 ⟨σ,H,I,w0⟩);rintro n s1 ⟨S5,H1,I1,w1⟩;refine agD hp (dD (hc pins s1 S5 H1 _ I1 (turn n S5 H1 w1)) λb s2 ⟨H2,I2,q2⟩=>?_);cases b with
 |true=>
  obtain ⟨N,hN,q2⟩:=q2;rw [if_pos rfl];refine agD hp (dD (hb pins s2 S5 H2 _ I2 q2) λf s3 q3=>?_);cases f with
  |next=>
   obtain ⟨Js,H3,I3,n3⟩:=q3;obtain ⟨m',hm,w3⟩:=hN Js H3 n3;exact ⟨m',hm,Js,H3,I3,w3⟩
  |cont=>
   obtain ⟨Js,H3,I3,n3⟩:=q3;obtain ⟨m',hm,w3⟩:=hN Js H3 n3;exact ⟨m',hm,Js,H3,I3,w3⟩
  |brk=>exact q3
  |ret v=>exact q3
 |false=>
  rw [if_neg aI];exact ag4 ⟨S5,H2,I2,q2⟩
end
structure It where
 go:Nat->Hp->Prop
 Ju:Nat->Hp->V->Hp->Prop
 stop:Nat->Hp->Prop
def tM (X:Cx) (pins:List (Addr×Obj)) (H:Hp) (b:Addr):Prop:=
 H b=none/\b≠X.env.locals/\b∉X.fs/\(b∈X.ex∨X.xQ.heap.objs.size<=b)/\(∀x c,X.env.cells.lookup x=some c->c≠b)/\∀p∈X.pn++pins,p.1≠b
theorem Inv.EF {X:Cx} {pins:List (Addr×Obj)} {σ:St} {H H':Hp} {s:afU} {b:Addr} (I:Inv X pins σ H s) (hb:s.heap.objs.size<=b) (hn:H' b=none):tM X pins H' b:=by
 refine ⟨hn,gR (bu I.lt hb),I.Zc hb, .inr (aV I.sz hb),λx c e z=>?_,λp hp z=>?_⟩
 ·obtain ⟨v,q⟩:=I.cell x c e;exact absurd (bu q.lt (by rw [z];exact hb)) (dO _)
 ·exact absurd (bu (Heap.lt_size (I.pin p hp).1) (by rw [z];exact hb)) (dO _)
structure Turn (P:afZ) (w:afW) (K:aa) (tg:af0) (J:It) (fp:List Addr) (it:Addr) (tn:Nat->afV->Prop):Prop where
 mem:it∈fp
 obj: ∀i h,tn i h->∀b∈fp, ∃o,h.get? b=some o/\∀v,o.data≠ .cell v
 keep: ∀i h h',tn i h->(∀b∈fp, ∀o,h.get? b=some o->h'.get? b=some o)->tn i h'
 item: ∀(X:Cx),X.prog=P->X.w=w->X.K=K->X.calm=true->∀(i:Nat) (pins:List (Addr×Obj)) (s:afU) (σ:St) (H:Hp) (E:Value->afU->Prop),Inv X pins σ H s->(∀b∈fp,tM X pins H b)->tn i s.heap->J.go i H->
  wpAny (afY P w) X.A (agm (.ref it)) (λr s1=> ∃u,r=some u/\
   wpAny (afY P w) X.A (ag5 tg (.ref it) u) (λ_ s2=> ∃x H',Inv X pins σ H' s2/\RelV x u/\J.Ju i H x H'/\tn (i+1) s2.heap/\∀b∈fp,H' b=none) E s1) E s
 done: ∀(X:Cx),X.prog=P->X.w=w->X.K=K->X.calm=true->∀(i:Nat) (pins:List (Addr×Obj)) (s:afU) (σ:St) (H:Hp) (E:Value->afU->Prop),Inv X pins σ H s->(∀b∈fp,tM X pins H b)->tn i s.heap->J.stop i H->
  wpAny (afY P w) X.A (agm (.ref it)) (λr s1=>r=none/\Inv X pins σ H s1) E s
 self: ∀(A:af3) (i:Nat) (s:afU) (Q:Value->afU->Prop) (E:Value->afU->Prop),tn i s.heap->Q (.ref it) s->wpAny (afY P w) A (pyIter (.ref it)) Q E s
abbrev TI:=St->Hp->(It->Hp->Prop)->Prop
def X1 (X:Cx) (pins:List (Addr×Obj)) (σ:St) (tg:af0) (R:It->Hp->Prop) (Zo:Value) (s2:afU):Prop:=
 ∃(it:Addr) (fp:List Addr) (tn:Nat->afV->Prop) (J:It) (H':Hp),Zo= .ref it/\Inv X pins σ H' s2/\Turn X.prog X.w X.K tg J fp it tn/\tn 0 s2.heap/\(∀b∈fp,tM X pins H' b)/\R J H'
def PI (X:Cx) (tg iter:af0) (wi:TI):Prop:=
 ∀(pins:List (Addr×Obj)) (s:afU) (σ:St) (H:Hp) (R:It->Hp->Prop),Inv X pins σ H s->wi σ H R->
  wpAny (afY X.prog X.w) X.A (eval iter X.env) (λv s1=>wpAny (afY X.prog X.w) X.A (pyIter v) (X1 X pins σ tg R) X.xe s1) X.xe s
theorem Lm {M:Model} {A:af3} {E:Value->afU->Prop} {s:afU} {tg:af0} {it:Addr} {u:Value} {o:Obj} {n:String} {vs:Array Value} {Q:Unit->afU->Prop} (ho:s.heap.get? it=some o) (hc:o.cls= .type n) (hd:o.data= .fields vs)
  (hn: ["enumerate","zip","dict_itemiterator","dict_reverseitemiterator","odict_iterator","itertools.zip_longest","itertools.pairwise"].contains n=false) (hQ:Q () s):wpAny M A (ag5 tg (.ref it) u) Q E s:=by
 unfold ag5;cases tg<;>first
  |exact af2 hQ
  |(cases u<;>first
    |exact af2 hQ
    |(refine afX (wpAny_load ho ?_)
      rw [hc,hd];show wpAny M A (if (["enumerate","zip","dict_itemiterator","dict_reverseitemiterator","odict_iterator","itertools.zip_longest","itertools.pairwise"].contains n&&vs[0]?==some (rawInt _))=true then _ else _) Q E s;rw [if_neg (by intro h;rw [hn,pb] at h;cases h)];exact af2 hQ))
def Qt (K:aa) (a:Addr):It:=
 ⟨λi H=> ∃xs x,iL K H a xs/\xs[i]?=some x,λi H x H'=>H'=H/\∀xs,iL K H a xs->xs[i]?=some x,λi H=> ∃xs,iL K H a xs/\xs.length<=i⟩
def Ng (lo:Int) (n:Nat):It:=⟨λi _=>i<n,λi H x H'=>H'=H/\x= .int (lo+i),λi _=>n<=i⟩
theorem GW {P:afZ} {w:afW} {K:aa} {tg:af0} (a it:Addr):Turn P w K tg (Qt K a) [it] it (λi h=>h.IsListIter it a i) where
 mem:=by simp
 obj:=λi h st b hb=>by
  have e:b=it:=by simpa using hb
  subst e;obtain ⟨o,e,c,d⟩:=st;exact ⟨o,e,λv z=>by rw [d] at z;cases z⟩
 keep:=λi h h' st k=>st.at λo e=>k it (by simp) o e
 item:=by
  intro X hP hw hK hc i pins s σ H E I hf st hg;subst hP hw hK;obtain ⟨xs,x,hq,hx⟩:=hg;obtain ⟨its,rv,p,hz⟩:=I.list hq;obtain ⟨u,hu,ru⟩:=rv.get hx;obtain ⟨f0,f1,f2,f3,f4,f5⟩:=hf it (by simp);refine wpAny_pyNext_list_item st p.isList (x:=u) (by simpa using hu) λh' wH sb=>?_;have I1:Inv X pins σ H {s with heap:=h'}:=I.turned (t':=s.toks) (λb o hb e=>(sb.2 b hb).trans e) f0 f1 f3 f4 f5;obtain ⟨o,e,c,d⟩:=id wH;exact ⟨u,rfl,Lm (s:={s with heap:=h'}) e c d (by decide) ⟨x,H,I1,ru,⟨rfl,λys hy=>by rw [I.nn hy hq];exact hx⟩,wH,λb hb=>(hf b hb).1⟩⟩
 done:=by
  intro X hP hw hK hc i pins s σ H E I hf st hg;subst hP hw hK;obtain ⟨xs,hq,hx⟩:=hg;obtain ⟨its,rv,p,hz⟩:=I.list hq;obtain ⟨f0,f1,f2,f3,f4,f5⟩:=hf it (by simp);have hl:=rv.length;exact wpAny_pyNext_list_end (I.ok.hd hc) st p.isList (by simp;omega) λh' eb=>⟨rfl,I.turned (t':=s.toks) (λb o hb e=>eb b o hb e) f0 f1 f3 f4 f5⟩
 self:=λ_ _ _ _ _ st h=>wpAny_pyIter_listiter st h
theorem DE {P:afZ} {w:afW} {K:aa} {tg:af0} (it:Addr) (lo:Int) (n:Nat):Turn P w K tg (Ng lo n) [it] it (λi h=>ag6 h it (lo+(i:Nat)*1) ((n:Int)-(i:Nat)) 1) where
 mem:=by simp
 obj:=λi h st b hb=>by
  have e:b=it:=by simpa using hb
  subst e;exact ⟨_,st,λv z=>by
   have z':Data.fields _=Data.cell v:=z;cases z'⟩
 keep:=λi h h' st k=>k it (by simp) _ st
 item:=by
  intro X hP hw hK hc i pins s σ H E I hf st hg;subst hP hw hK;obtain ⟨f0,f1,f2,f3,f4,f5⟩:=hf it (by simp);have W:=Walks.range (prog:=X.prog) (w:=X.w) (I.ok.hd hc) it lo 1 n;refine W.item i s _ _ hg st λv h' tk hv wH kk=>?_;obtain ⟨t,rfl⟩:=hv;have I1:Inv X pins σ H {s with heap:=h',toks:=tk}:=I.turned (λb o hb e=>kk b o (by simpa using hb) e) f0 f1 f3 f4 f5;refine ⟨_,rfl,Lm (s:={s with heap:=h',toks:=tk}) (n:= "range_iterator") wH rfl rfl (by decide) ⟨.int (lo+i),H,I1,⟨t,?_⟩,⟨rfl,rfl⟩,wH,λb hb=>(hf b hb).1⟩⟩;rw [Int.mul_one]
 done:=by
  intro X hP hw hK hc i pins s σ H E I hf st hg;subst hP hw hK;obtain ⟨f0,f1,f2,f3,f4,f5⟩:=hf it (by simp);exact wpAny_pyNext_range_end (I.ok.hd hc) st (by have:n<=i:=hg;omega) λh' eb=>⟨rfl,I.turned (t':=s.toks) (λb o hb e=>eb b o hb e) f0 f1 f3 f4 f5⟩
 self:=λ_ _ _ _ _ st h=>wpAny_pyIter_rangeiter st h
end L2
namespace L2
open PySem PySem.Spec PyProof.Rows
section
variable {X:Cx} {tg:af0}
inductive MK (K:aa) (x:V) (H1:Hp) (R:It->Hp->Prop):Prop
 |mk (a:Addr):(x= .ref a)->((∃xs,iL K H1 a xs))->(R (Qt K a) H1)->MK K x H1 R
def P1 (K:aa) (tl:TE):TI:=λσ H R=>tl σ H λx H1=>MK K x H1 R
theorem cC {l:af0} {tl:TE} (hl:PE X l tl):PI X tg l (P1 X.K tl):=by
 intro pins s σ H R I h;refine dD (hl pins s σ H _ I h) λv s1 ⟨x,H1,I1,r1,q1⟩=>?_;obtain ⟨a,e,⟨xs,hq⟩,q⟩:=q1;subst e;cases r1;obtain ⟨its,rv,p,hz⟩:=I1.list hq;refine agE p.isList ?_;refine ⟨s1.heap.objs.size,[s1.heap.objs.size],_,_,H1,rfl,I1.kept (t':=s1.toks) λb o e=>Heap.get?_push_of_some _ e,GW a _,⟨_,Heap.get?_push_size _ rfl,rfl,rfl⟩,λb hb=>?_,q⟩;have e:b=s1.heap.objs.size:=by simpa using hb
 subst e;exact I1.EF (ay _) (I1.cN.fresh (ay _))
theorem Bc {pins:List (Addr×Obj)} {σ:St} {H:Hp} {s:afU} {R:It->Hp->Prop} {E:Value->afU->Prop} {lo hi:Int} {t u v:Tok} {tk:Nat} (I:Inv X pins σ H s) (h1: -(2^62)<=lo) (h2:lo<2^62) (h3: -(2^62)<=hi) (h4:hi<2^62)
  (q:R (Ng lo (hi-lo).toNat) H):wpAny (afY X.prog X.w) X.A (pyIter (.ref s.heap.objs.size)) (X1 X pins σ tg R) E {s with heap:=s.heap.push {cls:= .type "range",data:= .fields #[.int lo t, .int hi u, .int 1 v]},toks:=tk}:=by
 refine wpAny_pyIter_range (IsRange.new ..) (small_one h1 h2 h3 h4) ?_;have I1:Inv X pins σ H {s with heap:=s.heap.push {cls:= .type "range",data:= .fields #[.int lo t, .int hi u, .int 1 v]},toks:=tk}:=I.kept λb o e=>Heap.get?_push_of_some _ e;refine ⟨(s.heap.push {cls:= .type "range",data:= .fields #[.int lo t, .int hi u, .int 1 v]}).objs.size,[(s.heap.push {cls:= .type "range",data:= .fields #[.int lo t, .int hi u, .int 1 v]}).objs.size],_,_,H,rfl,
  I1.kept (t':=tk) λb o e=>Heap.get?_push_of_some _ e,DE _ lo (hi-lo).toNat,?_,λb hb=>?_,q⟩
 ·have e1:lo+((0:Nat):Int)*1=lo:=by simp
  have e2:(((hi-lo).toNat:Nat):Int)-((0:Nat):Int)=Builtin.Range.rangeSize lo hi 1:=by rw [rangeSize_one];split<;>omega
  show ag6 _ _ (lo+((0:Nat):Int)*1) ((((hi-lo).toNat:Nat):Int)-((0:Nat):Int)) 1;rw [e1,e2];exact Heap.get?_push_size _ rfl
 ·have e:b=(s.heap.push {cls:= .type "range",data:= .fields #[.int lo t, .int hi u, .int 1 v]}).objs.size:=by simpa using hb
  subst e;exact I1.EF (ay _) (I1.cN.fresh (ay _))
inductive MJ (vs:List V) (H1:Hp) (R:It->Hp->Prop):Prop
 |mk (j:Int):(vs= [.int j])->(-(2^62)<=j)->(j<2^62)->(R (Ng 0 j.toNat) H1)->MJ vs H1 R
def Vm (ta:TA):TI:=λσ H R=>ta σ H λvs H1=>MJ vs H1 R
inductive MI (vs:List V) (H1:Hp) (R:It->Hp->Prop):Prop
 |mk (i:Int) (j:Int):(vs= [.int i, .int j])->((-(2^62)<=i/\i<2^62/\ -(2^62)<=j/\j<2^62))->(R (Ng i (j-i).toNat) H1)->MI vs H1 R
def Vl (ta:TA):TI:=λσ H R=>ta σ H λvs H1=>MI vs H1 R
theorem rM {a:af0} {ta:TA} {p pos:Pos} (hg:Gl X "range") (hm:X.mg "range" =none) (ha:PA X [a] ta) (hs:af1 [a] X.env= [(false,eval a X.env)]:=by rfl):PI X tg (.Call (.Name "range" p) [a] [] pos) (Vm ta):=by
 intro pins s σ H R I h;refine Call_ (lZ I hg hm boot_range (cX (dD (ha pos pins s σ H _ I h) λus s1 ⟨vs,H1,I1,r1,q1⟩=>?_) hs rfl));obtain ⟨j,e,q1,q2,q⟩:=q1;subst e;cases r1 with
 |cons r rr=>
  cases rr;obtain ⟨t,rfl⟩:=r;exact call_range_1 (Bc I1 (by omega) (by omega) q1 q2 (by simpa using q))
theorem iC {a b:af0} {ta:TA} {p pos:Pos} (hg:Gl X "range") (hm:X.mg "range" =none) (ha:PA X [a,b] ta) (hs:af1 [a,b] X.env= [(false,eval a X.env),(false,eval b X.env)]:=by rfl) (RQ:af1 [b] X.env= [(false,eval b X.env)]:=by rfl):
  PI X tg (.Call (.Name "range" p) [a,b] [] pos) (Vl ta):=by
 intro pins s σ H R I h;refine Call_ (lZ I hg hm boot_range (cX (dD (ha pos pins s σ H _ I h) λus s1 ⟨vs,H1,I1,r1,q1⟩=>?_) (by rw [hs,RQ]) (by rw [RQ];rfl)));obtain ⟨i,j,e,⟨q1,q2,q3,q4⟩,q⟩:=q1;subst e;cases r1 with
 |cons r rr=>
  cases rr with
  |cons r' rr=>
   cases rr;obtain ⟨t,rfl⟩:=r;obtain ⟨t',rfl⟩:=r';exact call_range_2 (Bc I1 q1 q2 q3 q4 q)
def Yw (wi:TI) (g:TG) (tb:TS):TS:=λD σ H=>wi σ H λJ H1=> ∃W:Nat->Nat->St->Hp->Prop,(∃m,W 0 m σ H1)/\∀i m σ H,W i m σ H->
 (J.stop i H/\D.nx σ H)∨(J.go i H/\∃N:St->Hp->Prop,(∀eM H',N eM H'->∃m',m'<m/\W (i+1) m' eM H')/\∀x H',J.Ju i H x H'->g x σ H' λkJ H2=>tb {D with nx:=N,ct:=N,bk:=D.nx} kJ H2)
def vd (fp:List Addr) (h:afV):List (Addr×Obj):=fp.filterMap λb=>(h.get? b).map λo=>(b,o)
theorem pL {fp:List Addr} {h:afV} {b:Addr} {o:Obj} (hb:b∈fp) (e:h.get? b=some o):(b,o)∈vd fp h:=bU.mpr ⟨b,hb,by rw [e];rfl⟩
theorem HE {fp:List Addr} {h:afV} {p:Addr×Obj} (hp:p∈vd fp h):p.1∈fp/\h.get? p.1=some p.2:=by
 obtain ⟨b,hb,e⟩:=bU.mp hp;cases q:h.get? b with
 |none=>rw [q] at e;cases e
 |some o=>
  rw [q] at e;have e':(b,o)=p:=bx e;subst e';exact ⟨hb,q⟩
theorem Inv.pinned {pins:List (Addr×Obj)} {σ:St} {H:Hp} {s:afU} {fp:List Addr} (I:Inv X pins σ H s) (hf: ∀b∈fp,tM X pins H b) (ho: ∀b∈fp, ∃o,s.heap.get? b=some o/\∀v,o.data≠ .cell v):Inv X (pins++vd fp s.heap) σ H s:=
 I.FG λp hp=>(bF.mp hp).elim (λz=>I.pin p (cH _ z)) λz=>by
  obtain ⟨hb,e⟩:=HE z;obtain ⟨f0,f1,f2,_⟩:=hf p.1 hb;obtain ⟨o,e',d⟩:=ho p.1 hb;rw [e] at e';cases e';exact ⟨e,f0,f1,f2,d⟩
theorem Inv.qk {pins pl:List (Addr×Obj)} {σ:St} {H:Hp} {s:afU} (I:Inv X (pins++pl) σ H s):Inv X pins σ H s:=I.FG λp hp=>I.pin p (cH _ (cR _ hp))
theorem dk {iter:af0} {body:List af6} {wi:TI} {g:TG} {tb:TS} {pos:Pos} (hp:PassesOwn (afY X.prog X.w) X.A X.env X.xe) (hc:X.calm=true) (hi:PI X tg iter wi) (hg:PG X tg g) (hb:Du X body tb)
  (hs: ∀x,ag7 iter X.env x=pure x:=by intro _;rfl):PS X (.For tg iter body [] pos) (Yw wi g tb):=by
 intro pins s σ H D I h;refine wpAny_For (dD (hi pins s σ H _ I h) λv s1 h1=>dD h1 λZo s2 h2=>?_) hs;obtain ⟨it,fp,tn,J,H2,e,I2,T,Xe,f2,W,⟨m0,w0⟩,turn⟩:=h2;subst e;have DQ: ∀{H':Hp},(∀b∈fp,H' b=none)->∀b∈fp,tM X pins H' b:=λhn b hb=>⟨hn b hb,(f2 b hb).2⟩
 refine codeAny_forLoop_any (λn s'=> ∃i eM H',Inv X pins eM H' s'/\tn i s'.heap/\(∀b∈fp,H' b=none)/\W i n eM H') ?_ m0 ⟨0,σ,H2,I2,Xe,λb hb=>(f2 b hb).1,w0⟩;rintro n s3 ⟨i,Js,H3,I3,Xd,fr3,w3⟩;rcases turn i n Js H3 w3 with ⟨stop,qn⟩|⟨go,N,hN,step⟩
 ·refine agD hp (dD (T.done X rfl rfl rfl hc i pins s3 Js H3 X.xe I3 (DQ fr3) Xd stop) λr s4 ⟨hr,I4⟩=>?_);subst hr;exact ag4 ⟨Js,H3,I4,qn⟩
 ·refine agD hp (dD (T.item X rfl rfl rfl hc i pins s3 Js H3 X.xe I3 (DQ fr3) Xd go) λr s4 ⟨u,hr,h4⟩=>?_);subst hr;refine agD hp (dD h4 λ_ s5 ⟨x,H5,I5,r5,y5,S7,fr5⟩=>?_);have I5':=I5.pinned (DQ fr5) (T.obj _ _ S7);refine agD hp (dD (hg _ s5 Js H5 x u _ I5' r5 (step x H5 y5)) λ_ s6 ⟨σ6,H6,I6,q6⟩=>?_);refine agD hp (dD (hb _ s6 σ6 H6 _ I6 q6) λf s7 q7=>?_);have again: ∀{Jr:St} {H7:Hp},Inv X (pins++vd fp s5.heap) Jr H7 s7->N Jr H7->∃m,m<n/\∃i eM H',Inv X pins eM H' s7/\tn i s7.heap/\(∀b∈fp,H' b=none)/\W i m eM H':=λ{Jr H7} I7 n7=>by
   obtain ⟨m',hm,w7⟩:=hN Jr H7 n7;refine ⟨m',hm,i+1,Jr,H7,I7.qk,T.keep _ _ _ S7 λb hb o e=>(I7.pin (b,o) (cH _ (cH _ (pL hb e)))).1,λb hb=>?_,w7⟩;obtain ⟨o,e,d⟩:=T.obj _ _ S7 b hb;exact (I7.pin (b,o) (cH _ (cH _ (pL hb e)))).2.1
  cases f with
  |next=>obtain ⟨Jr,H7,I7,n7⟩:=q7;exact again I7 n7
  |cont=>obtain ⟨Jr,H7,I7,n7⟩:=q7;exact again I7 n7
  |brk=>obtain ⟨Jr,H7,I7,q7⟩:=q7;exact ⟨Jr,H7,I7.qk,q7⟩
  |ret v=>obtain ⟨x7,Jr,H7,I7,r7,q7⟩:=q7;exact ⟨x7,Jr,H7,I7.qk,r7,q7⟩
end
theorem eQ {K:aa} {a:Addr} {xs:List V} {g:TG} {tb:TS} {D:Ends} {σ:St} {H:Hp} (Pv:Nat->St->Hp->Prop) (h0:Pv 0 σ H) (hl: ∀i σ H,i<=xs.length->Pv i σ H->iL K H a xs)
  (hs:let Iv:=Pv;let Dv:=D;let Bv:=tb; ∀i x σ H,xs[i]?=some x->Iv i σ H->g x σ H λkJ H2=>Bv {Dv with nx:=Iv (i+1),ct:=Iv (i+1),bk:=Dv.nx} kJ H2) (hd: ∀σ H,Pv xs.length σ H->D.nx σ H):
  ∃W:Nat->Nat->St->Hp->Prop,(∃m,W 0 m σ H)/\∀i m σ H,W i m σ H->
   ((Qt K a).stop i H/\D.nx σ H)∨((Qt K a).go i H/\∃N:St->Hp->Prop,(∀eM H',N eM H'->∃m',m'<m/\W (i+1) m' eM H')/\∀x H',(Qt K a).Ju i H x H'->g x σ H' λkJ H2=>tb {D with nx:=N,ct:=N,bk:=D.nx} kJ H2):=by
 refine ⟨λi m σ H=>m=xs.length-i/\i<=xs.length/\Pv i σ H,⟨xs.length,by simp,bw _,h0⟩,?_⟩;rintro i m σ H ⟨rfl,hi,p⟩;have q:=hl i σ H hi p;by_cases i4:i<xs.length
 ·refine .inr ⟨⟨xs,xs[i],q,by simp [i4]⟩,Pv (i+1),λeM H' p'=>⟨xs.length-(i+1),by omega,rfl,i4,p'⟩,λx H' y=>?_⟩;obtain ⟨e,y⟩:=y;subst e;exact hs i x σ _ (y xs q) p
 ·have e:i=xs.length:=by omega
  subst e;exact .inl ⟨⟨xs,q,ay _⟩,hd σ H p⟩
theorem g8 {lo:Int} {n:Nat} {g:TG} {tb:TS} {D:Ends} {σ:St} {H:Hp} (Pv:Nat->St->Hp->Prop) (h0:Pv 0 σ H)
  (hs:let Iv:=Pv;let Dv:=D;let Bv:=tb; ∀i σ H,i<n->Iv i σ H->g (.int (lo+i)) σ H λkJ H2=>Bv {Dv with nx:=Iv (i+1),ct:=Iv (i+1),bk:=Dv.nx} kJ H2) (hd: ∀σ H,Pv n σ H->D.nx σ H):
  ∃W:Nat->Nat->St->Hp->Prop,(∃m,W 0 m σ H)/\∀i m σ H,W i m σ H->
   ((Ng lo n).stop i H/\D.nx σ H)∨((Ng lo n).go i H/\∃N:St->Hp->Prop,(∀eM H',N eM H'->∃m',m'<m/\W (i+1) m' eM H')/\∀x H',(Ng lo n).Ju i H x H'->g x σ H' λkJ H2=>tb {D with nx:=N,ct:=N,bk:=D.nx} kJ H2):=by
 refine ⟨λi m σ H=>m=n-i/\i<=n/\Pv i σ H,⟨n,by simp,bw _,h0⟩,?_⟩;rintro i m σ H ⟨rfl,hi,p⟩;by_cases i4:i<n
 ·refine .inr ⟨i4,Pv (i+1),λeM H' p'=>⟨n-(i+1),by omega,rfl,i4,p'⟩,λx H' y=>?_⟩;obtain ⟨e,y⟩:=y;subst e y;exact hs i σ _ i4 p
 ·have e:i=n:=by omega
  subst e;exact .inl ⟨ay _,hd σ H p⟩
end L2
namespace L2
open PySem PySem.Spec PyProof.Rows
abbrev R2:=V->V->Hp->VK->Prop
def sL (X:Cx) (f:Value->Value->Sem Value) (r:R2):Prop:=
 ∀(pins:List (Addr×Obj)) (s:afU) (σ:St) (H:Hp) (x y:V) (v u:Value) (Q:VK),Inv X pins σ H s->RelV x v->RelV y u->r x y H Q->
  wpAny (afY X.prog X.w) X.A (f v u) (EP X pins σ Q) X.xe s
def UnR (X:Cx) (f:Value->Sem Value) (r:V->Hp->VK->Prop):Prop:=
 ∀(pins:List (Addr×Obj)) (s:afU) (σ:St) (H:Hp) (x:V) (v:Value) (Q:VK),Inv X pins σ H s->RelV x v->r x H Q->
  wpAny (afY X.prog X.w) X.A (f v) (EP X pins σ Q) X.xe s
def jR (X:Cx) (f:Value) (r:List V->Hp->VK->Prop):Prop:=
 ∀(pins:List (Addr×Obj)) (s:afU) (σ:St) (H:Hp) (xs:List V) (us:List Value) (Q:VK),Inv X pins σ H s->Vals xs us->r xs H Q->
  wpAny (afY X.prog X.w) X.A (call f us) (EP X pins σ Q) X.xe s
def aaT (X:Cx) (r:V->Hp->(Bool->Hp->Prop)->Prop):Prop:=
 ∀(pins:List (Addr×Obj)) (s:afU) (σ:St) (H:Hp) (x:V) (v:Value) (Q:Bool->Hp->Prop),Inv X pins σ H s->RelV x v->r x H Q->
  wpAny (afY X.prog X.w) X.A (truthy v) (TP X pins σ Q) X.xe s
def QP (r:R2) (ta tb:TE):TE:=λσ H Q=>ta σ H λx H1=>tb σ H1 λy H2=>r x y H2 Q
def tUn (r:V->Hp->VK->Prop) (ta:TE):TE:=λσ H Q=>ta σ H λx H1=>r x H1 Q
inductive IrI (C:Int->Int->Prop) (g:Int->Int->V) (x:V) (y:V) (H:Hp) (Q:VK):Prop
 |mk (i:Int) (j:Int):(x= .int i)->(y= .int j)->(C i j)->(Q (g i j) H)->IrI C g x y H Q
def rI (C:Int->Int->Prop) (g:Int->Int->V):R2:=λx y H Q=>IrI C g x y H Q
inductive WT (g:Int->Int->V) (x:V) (y:V) (H:Hp) (Q:VK):Prop
 |mk (i:Int) (j:Int):(x= .int i)->(y= .int j)->(Q (g i j) H)->WT g x y H Q
def MW (g:Int->Int->V):R2:=λx y H Q=>WT g x y H Q
inductive IrU (g:Int->V) (x:V) (H:Hp) (Q:VK):Prop
 |mk (i:Int):(x= .int i)->(Q (g i) H)->IrU g x H Q
def rU (g:Int->V):V->Hp->VK->Prop:=λx H Q=>IrU g x H Q
section
variable {X:Cx} {a b c:af0} {ta tb tc:TE} {pos:Pos}
theorem SL (ha:PE X a ta) (hb:PE X b tb) {pins:List (Addr×Obj)} {s:afU} {σ:St} {H:Hp} {R:V->V->Hp->Prop} (I:Inv X pins σ H s)
  (h:ta σ H λx H1=>tb σ H1 λy H2=>R x y H2) {Q:Value->afU->Prop} {f:Value->Value->Sem Value}
  (hf: ∀v u s2 x y H2,Inv X pins σ H2 s2->RelV x v->RelV y u->R x y H2->wpAny (afY X.prog X.w) X.A (f v u) Q X.xe s2):
  wpAny (afY X.prog X.w) X.A (eval a X.env) (λv dz=>wpAny (afY X.prog X.w) X.A (eval b X.env) (λu kh=>wpAny (afY X.prog X.w) X.A (f v u) Q X.xe kh) X.xe dz) X.xe s:=by
 refine dD (ha pins s σ H _ I h) λv s1 ⟨x,H1,I1,r1,q1⟩=>?_;refine dD (hb pins s1 σ H1 _ I1 q1) λu s2 ⟨y,H2,I2,r2,q2⟩=>?_;exact hf v u s2 x y H2 I2 r1 r2 q2
theorem bX {op:Operator} {r:R2} (ho:sL X (agj op) r) (ha:PE X a ta) (hb:PE X b tb):PE X (.BinOp a op b pos) (QP r ta tb):=by
 intro pins s σ H Q I h;exact wpAny_BinOp (SL ha hb I h λv u s2 x y H2 I2 rx ry q=>ho pins s2 σ H2 x y v u Q I2 rx ry q)
theorem ve {op:UnaryOp} {r:V->Hp->VK->Prop} (ho:UnR X (unaryOp op) r) (ha:PE X a ta):PE X (.UnaryOp op a pos) (tUn r ta):=by
 intro pins s σ H Q I h;exact UnaryOp_ (dD (ha pins s σ H _ I h) λv s1 ⟨x,H1,I1,r1,q1⟩=>ho pins s1 σ H1 x v Q I1 r1 q1)
theorem UY {f:Value->Value->Sem Value} {C:Int->Int->Prop} {g:Int->Int->Int}
  (rule: ∀(i j:Int) (t u:Tok) (s:afU) (Q:Value->afU->Prop) (E:Value->afU->Prop),C i j->Q (.int (g i j) s.toks) {s with toks:=s.toks+1}->wpAny (afY X.prog X.w) X.A (f (.int i t) (.int j u)) Q E s):
  sL X f (rI C λi j=> .int (g i j)):=by
 intro pins s σ H x y v u Q I rx ry h;obtain ⟨i,j,rfl,rfl,hc,q⟩:=h;obtain ⟨t,rfl⟩:=rx;obtain ⟨t',rfl⟩:=ry;exact rule i j t t' s _ _ hc ⟨.int (g i j),H,I.tok _,⟨_,rfl⟩,q⟩
theorem Oc {f:Value->Value->Sem Value} {g:Int->Int->Int}
  (rule: ∀(i j:Int) (t u:Tok) (s:afU) (Q:Value->afU->Prop) (E:Value->afU->Prop),Q (.int (g i j) s.toks) {s with toks:=s.toks+1}->wpAny (afY X.prog X.w) X.A (f (.int i t) (.int j u)) Q E s):
  sL X f (MW λi j=> .int (g i j)):=by
 intro pins s σ H x y v u Q I rx ry h;obtain ⟨i,j,rfl,rfl,q⟩:=h;obtain ⟨t,rfl⟩:=rx;obtain ⟨t',rfl⟩:=ry;exact rule i j t t' s _ _ ⟨.int (g i j),H,I.tok _,⟨_,rfl⟩,q⟩
theorem Od {f:Value->Value->Sem Value} {g:Int->Int->Bool}
  (rule: ∀(i j:Int) (t u:Tok) (s:afU) (Q:Value->afU->Prop) (E:Value->afU->Prop),Q (.bool (g i j)) s->wpAny (afY X.prog X.w) X.A (f (.int i t) (.int j u)) Q E s):
  sL X f (MW λi j=> .bl (g i j)):=by
 intro pins s σ H x y v u Q I rx ry h;obtain ⟨i,j,rfl,rfl,q⟩:=h;obtain ⟨t,rfl⟩:=rx;obtain ⟨t',rfl⟩:=ry;exact rule i j t t' s _ _ ⟨.bl (g i j),H,I,rfl,q⟩
def aa1 (i j:Int):Prop:=0<j/\j<1073741824
def aa0 (i j:Int):Prop:=0<=j/\j<=1000000/\i.natAbs<2^64
def SX (i j:Int):Prop:=(-(2^64)<i/\i<2^64)∨(-(2^64)<j/\j<2^64)
theorem SX.ok {i j:Int} (h:SX i j):IntMulOk i j:=by
 rcases h with ⟨h1,h2⟩|⟨h1,h2⟩
 ·exact .of_left (intBits_le_64 h1 h2)
 ·exact .of_right (intBits_le_64 h1 h2)
theorem DD (k:Nat):(0:Int)<=2^k:=by
 rw [two_pow_cast];exact Int.natCast_nonneg _
theorem fD:sL X (agj .Add) (MW λi j=> .int (i+j)):=Oc λ_ _ _ _ _ _ _ q=>add_int q
theorem fU:sL X (agj .Sub) (MW λi j=> .int (i-j)):=Oc λ_ _ _ _ _ _ _ q=>sub_int q
theorem vk:sL X (agj .Mult) (rI SX λi j=> .int (i*j)):=UY λ_ _ _ _ _ _ _ hc q=>mul_int q hc.ok
theorem Ob:sL X (agj .FloorDiv) (rI aa1 λi j=> .int (i/j)):=UY λi j _ _ _ _ _ hc q=>by
 have h1:(0:Int)<j:=hc.1;have h2:j<1073741824:=hc.2;exact floordiv_int (by omega) (by rw [Av i (by omega)];exact q) (.inl (Ar (by omega)))
theorem D4:sL X (agj .Mod) (rI (λ_ j=>0<j) λi j=> .int (i%j)):=UY λi j _ _ _ _ _ hc q=>by
 have h1:(0:Int)<j:=hc;exact mod_int' (by omega) (by rw [Int.fmod_eq_emod_of_nonneg i (by omega)];exact q)
theorem zr:sL X (agj .LShift) (rI aa0 λi j=> .int (i*2^j.toNat)):=UY λ_ _ _ _ _ _ _ hc q=>lshift_int_small hc.1 hc.2.1 hc.2.2 q
theorem Kz:sL X (agj .RShift) (rI (λ_ j=>0<=j) λi j=> .int (i/2^j.toNat)):=UY λi j _ _ _ _ _ hc q=>
 rshift_int hc (by rw [Av i (DD _)];exact q)
theorem zt:sL X (agj .BitAnd) (MW λi j=> .int (Builtin.bitAnd i j)):=Oc λ_ _ _ _ _ _ _ q=>and_int q
theorem UX:sL X (agj .BitOr) (MW λi j=> .int (Builtin.bitOr i j)):=Oc λ_ _ _ _ _ _ _ q=>or_int q
theorem unI {f:Value->Sem Value} {g:Int->Int}
  (rule: ∀(i:Int) (t:Tok) (s:afU) (Q:Value->afU->Prop) (E:Value->afU->Prop),Q (.int (g i) s.toks) {s with toks:=s.toks+1}->wpAny (afY X.prog X.w) X.A (f (.int i t)) Q E s):
  UnR X f (rU λi=> .int (g i)):=by
 intro pins s σ H x v Q I rx h;obtain ⟨i,rfl,q⟩:=h;obtain ⟨t,rfl⟩:=rx;exact rule i t s _ _ ⟨.int (g i),H,I.tok _,⟨_,rfl⟩,q⟩
theorem pj:UnR X (unaryOp .USub) (rU λi=> .int (-i)):=unI λ_ _ _ _ _ q=>neg_int q
end
def UC:V->V->Bool
 | .fE, .fE=>true| .fE, .int _=>true| .int _, .fE=>true| .fE, .bl _=>true| .bl _, .fE=>true| .fE, .str _=>true| .str _, .fE=>true
 | .int _, .int _=>true| .bl _, .bl _=>true| .str _, .str _=>true| .Ac _, .Ac _=>true
 | .int _, .str _=>true| .str _, .int _=>true| .bl _, .str _=>true| .str _, .bl _=>true
 |_,_=>false
def rEq:R2:=λx y H Q=>UC x y=true/\Q (.bl (decide (x=y))) H
def rNe:R2:=λx y H Q=>UC x y=true/\Q (.bl (!decide (x=y))) H
theorem Gh {i j:Int}:decide (V.int i=V.int j)=(i==j):=by
 rw [bC];simp
theorem Mp {i j:Bool}:decide (V.bl i=V.bl j)=(i==j):=by
 rw [bC];simp
theorem Gg {i j:Str}:decide (V.str i=V.str j)=(i==j):=by
 rw [bC];simp
theorem Gi {i j:Array UInt8}:decide (V.Ac i=V.Ac j)=(i.toList==j.toList):=by
 rw [bC];cases i;cases j;simp
section
variable {X:Cx} {a b c:af0} {ta tb tc:TE} {pos:Pos}
theorem dh {pins:List (Addr×Obj)} {σ:St} {H:Hp} {s:afU} {Q:VK} {k k':Bool} (I:Inv X pins σ H s) (q:Q (.bl k) H) (e:k=k'):EP X pins σ Q (.bool k') s:=by
 subst e;exact ⟨.bl k,H,I,rfl,q⟩
theorem fV:sL X (age .Eq) rEq:=by
 intro pins s σ H x y v u Q I rx ry h;obtain ⟨hs,q⟩:=h;cases x with
 |fE=>
  cases rx;cases y with
  |fE=>cases ry;exact Yd (dh I q (by simp))
  |bl j=>cases ry;exact Yf (dh I q (by simp))
  |int j=>obtain ⟨t',rfl⟩:=ry;exact Ye (dh I q (by simp))
  |str j=>obtain ⟨t',rfl⟩:=ry;exact Yc (dh I q (by simp))
  |_=>exact absurd (show false=true from hs) aI
 |bl i=>
  cases rx;cases y with
  |fE=>cases ry;exact Yh (dh I q (by simp))
  |bl j=>cases ry;exact eq_bool (dh I q Mp)
  |str j=>obtain ⟨t',rfl⟩:=ry;exact W4 (dh I q (by simp))
  |_=>exact absurd (show false=true from hs) aI
 |int i=>
  obtain ⟨t,rfl⟩:=rx;cases y with
  |fE=>cases ry;exact Yg (dh I q (by simp))
  |int j=>obtain ⟨t',rfl⟩:=ry;exact eq_int (dh I q Gh)
  |str j=>obtain ⟨t',rfl⟩:=ry;exact W3 (dh I q (by simp))
  |_=>exact absurd (show false=true from hs) aI
 |str i=>
  obtain ⟨t,rfl⟩:=rx;cases y with
  |fE=>cases ry;exact Yb (dh I q (by simp))
  |bl j=>cases ry;exact W2 (dh I q (by simp))
  |int j=>obtain ⟨t',rfl⟩:=ry;exact W1 (dh I q (by simp))
  |str j=>obtain ⟨t',rfl⟩:=ry;exact eq_str (dh I q Gg)
  |_=>exact absurd (show false=true from hs) aI
 |Ac i=>
  obtain ⟨t,rfl⟩:=rx;cases y with
  |Ac j=>obtain ⟨t',rfl⟩:=ry;exact PySem.W.eq_bytes (dh I q Gi)
  |_=>exact absurd (show false=true from hs) aI
 |_=>cases y<;>exact absurd (show false=true from hs) aI
theorem vj:sL X (age .NotEq) rNe:=by
 intro pins s σ H x y v u Q I rx ry h;obtain ⟨hs,q⟩:=h;cases x with
 |fE=>
  cases rx;cases y with
  |fE=>cases ry;exact X6 (dh I q (by simp))
  |bl j=>cases ry;exact X8 (dh I q (by simp))
  |int j=>obtain ⟨t',rfl⟩:=ry;exact X7 (dh I q (by simp))
  |str j=>obtain ⟨t',rfl⟩:=ry;exact X5 (dh I q (by simp))
  |_=>exact absurd (show false=true from hs) aI
 |bl i=>
  cases rx;cases y with
  |fE=>cases ry;exact Ya (dh I q (by simp))
  |bl j=>cases ry;exact ne_bool (dh I q (congrArg not Mp))
  |str j=>obtain ⟨t',rfl⟩:=ry;exact W0 (dh I q (by simp))
  |_=>exact absurd (show false=true from hs) aI
 |int i=>
  obtain ⟨t,rfl⟩:=rx;cases y with
  |fE=>cases ry;exact X9 (dh I q (by simp))
  |int j=>obtain ⟨t',rfl⟩:=ry;exact ne_int (dh I q (congrArg not Gh))
  |str j=>obtain ⟨t',rfl⟩:=ry;exact WZ (dh I q (by simp))
  |_=>exact absurd (show false=true from hs) aI
 |str i=>
  obtain ⟨t,rfl⟩:=rx;cases y with
  |fE=>cases ry;exact X4 (dh I q (by simp))
  |bl j=>cases ry;exact WY (dh I q (by simp))
  |int j=>obtain ⟨t',rfl⟩:=ry;exact WX (dh I q (by simp))
  |str j=>obtain ⟨t',rfl⟩:=ry;exact ne_str (dh I q (congrArg not Gg))
  |_=>exact absurd (show false=true from hs) aI
 |Ac i=>
  obtain ⟨t,rfl⟩:=rx;cases y with
  |Ac j=>obtain ⟨t',rfl⟩:=ry;exact PySem.W.ne_bytes (dh I q (congrArg not Gi))
  |_=>exact absurd (show false=true from hs) aI
 |_=>cases y<;>exact absurd (show false=true from hs) aI
theorem xX:sL X (age .Lt) (MW λi j=> .bl (decide (i<j))):=Od λ_ _ _ _ _ _ _ q=>lt_int q
theorem vm:sL X (age .LtE) (MW λi j=> .bl (decide (i<=j))):=Od λ_ _ _ _ _ _ _ q=>le_int q
theorem BA:sL X (age .Gt) (MW λi j=> .bl (decide (j<i))):=Od λ_ _ _ _ _ _ _ q=>gt_int q
theorem FN:sL X (age .GtE) (MW λi j=> .bl (decide (j<=i))):=Od λ_ _ _ _ _ _ _ q=>ge_int q
theorem bS (b:af0) {op:CmpOp} (h:op≠ .In:=by decide) (h2:op≠ .NotIn:=by decide):agr op b=false:=by
 have e1:(op==CmpOp.In)=false:=by cases op<;>first|rfl|exact absurd rfl h
 have e2:(op==CmpOp.NotIn)=false:=by cases op<;>first|rfl|exact absurd rfl h2
 cases b<;>simp [agr,e1,e2]
theorem dG {op:CmpOp} {r:R2} (ho:sL X (age op) r) (ha:PE X a ta) (hb:PE X b tb) (hm:agr op b=false):PE X (.Compare a [op] [b] pos) (QP r ta tb):=by
 intro pins s σ H Q I h;exact wpAny_Compare1 (SL ha hb I h λv u s2 x y H2 I2 rx ry q=>ho pins s2 σ H2 x y v u Q I2 rx ry q) hm
def Pu (t:TE):TT:=λσ H Q=>t σ H λx H'=>IBl x H' Q
theorem cB {op:CmpOp} {r:R2} (ho:sL X (age op) r) (ha:PE X a ta) (hb:PE X b tb) (hm:agr op b=false):PT X (.Compare a [op] [b] pos) (Pu (QP r ta tb)):=by
 intro pins s σ H Q I h;refine wpAny_isTrue_Compare1 (dD (ha pins s σ H _ I h) λv s1 ⟨x,H1,I1,r1,q1⟩=>dD (hb pins s1 σ H1 _ I1 q1) λu s2 ⟨y,H2,I2,r2,q2⟩=>
  dD (ho pins s2 σ H2 x y v u _ I2 r1 r2 q2) λc s3 ⟨z,H3,I3,r3,k,e,q3⟩=>?_) hm
 subst e;cases r3;exact agu ⟨H3,I3,q3⟩
def QV (r r':R2) (ta tb tc:TE):TE:=λσ H Q=>ta σ H λx H1=>tb σ H1 λy H2=>r x y H2 λz H3=> ∃k,z= .bl k/\
 (if k=true then tc σ H3 λw' H4=>r' y w' H4 Q else Q (.bl false) H3)
theorem Kw {op Y4:CmpOp} {r r':R2} (ho:sL X (age op) r) (Do:sL X (age Y4) r') (ha:PE X a ta) (hb:PE X b tb) (hc:PE X c tc)
  (hm:lastMarks [op,Y4] [b,c]=false:=by with_unfolding_all rfl):PE X (.Compare a [op,Y4] [b,c] pos) (QV r r' ta tb tc):=by
 intro pins s σ H Q I h;refine Compare_chain (dD (ha pins s σ H _ I h) λv s1 ⟨x,H1,I1,r1,q1⟩=>chain_link (dD (hb pins s1 σ H1 _ I1 q1) λu s2 ⟨y,H2,I2,r2,q2⟩=>
  dD (ho pins s2 σ H2 x y v u _ I2 r1 r2 q2) λd s3 ⟨z,H3,I3,r3,k,e,q3⟩=>?_)) hm
 subst e;cases r3;refine agu ?_;cases k with
 |false=>exact ite_ff ⟨.bl false,H3,I3,rfl,q3⟩
 |true=>exact ite_tt (chain_last (dD (hc pins s3 σ H3 _ I3 q3) λw' s4 ⟨z',H4,I4,r4,q4⟩=>Do pins s4 σ H4 y z' u w' Q I4 r2 r4 q4))
def WL (K:aa) (x:V) (H:Hp) (k:Bool):Prop:=
 match x with
 | .fE=>k=false
 | .bl b=>k=b
 | .int i=>k=(i !=0)
 | .str y=>y.length<=sizeLine/\k=((y.length:Int) !=0)
 | .Ac y=>y.size<=sizeLine/\k=((y.size:Int) !=0)
 | .ref p=>(∃xs,iL K H p xs/\k=!xs.isEmpty)∨(∃xs,Ah K H p xs/\k=!xs.isEmpty)∨∃kvs,H p=some (.dK kvs)/\k=!kvs.isEmpty
 |_=>False
theorem Ew {κ:Type} {kvs:List (κ×V)} {vs:List (κ×Value)} (r:KV kvs vs):(!vs.isEmpty)=!kvs.isEmpty:=by
 cases r<;>rfl
theorem vK {xs:List V} {its:List Value} (r:Vals xs its):(!its.toArray.isEmpty)=!xs.isEmpty:=by
 cases r<;>simp
theorem vz:(sizeLine:Nat)<2^63:=by rw [af5];decide
theorem QM:aaT X (λx H Q=> ∃k,WL X.K x H k/\Q k H):=by
 intro pins s σ H x v Q I rx h;obtain ⟨k,e,q⟩:=h;have hl:=vz;have hs:sizeLine=16777216:=af5;cases x with
 |fE=>
  cases rx;have e':k=false:=e;subst e';exact truthy_none ⟨H,I,q⟩
 |bl b=>
  cases rx;have e':k=b:=e;subst e';exact agu ⟨H,I,q⟩
 |int i=>
  obtain ⟨t,rfl⟩:=rx;have e':k=(i !=0):=e;subst e';exact PySem.P.truthy_int ⟨H,I,q⟩
 |str y=>
  obtain ⟨t,rfl⟩:=rx;obtain ⟨hy,e'⟩:y.length<=sizeLine/\k=((y.length:Int) !=0):=e;subst e';exact PySem.P.truthy_str (by omega) ⟨H,I.tok _,q⟩
 |Ac y=>
  obtain ⟨t,rfl⟩:=rx;obtain ⟨hy,e'⟩:y.size<=sizeLine/\k=((y.size:Int) !=0):=e;subst e';exact PySem.W.truthy_bytes (by omega) ⟨H,I.tok _,q⟩
 |ref p=>
  cases rx;have e':(∃xs,iL X.K H p xs/\k=!xs.isEmpty)∨(∃xs,Ah X.K H p xs/\k=!xs.isEmpty)∨∃kvs,H p=some (.dK kvs)/\k=!kvs.isEmpty:=e;rcases e' with ⟨xs,hx,e'⟩|⟨xs,hx,e'⟩|⟨kvs,hx,e'⟩
  ·subst e';obtain ⟨its,r,pl,hz⟩:=I.list hx;have hlen:=r.length;exact wpAny_truthy_list pl.isList (by simp only [be];omega) ⟨H,I.tok _,by rw [vK r];exact q⟩
  ·subst e';obtain ⟨its,r,pl,hz⟩:=I.tuple hx;have hlen:=r.length;exact truthy_tuple pl (by simp only [be];omega) ⟨H,I.tok _,by rw [vK r];exact q⟩
  ·subst e';obtain ⟨hz,hS,vs,r,m⟩:kvs.length<=sizeLine/\(p==agb)=false/\∃vs,KV kvs vs/\s.heap.DictOf (cG X.prog X.w) p vs:=I.cN p _ hx;have hlen:kvs.length=vs.length:=Paired.length r;exact wpAny_truthy_dict hS m (by omega) ⟨H,I.tok _,by rw [Ew r];exact q⟩
 |_=>exact (show False from e).elim
theorem Bj (ha:PE X a ta) (he: ∀whole,isTrue a X.env whole=(do let v<-whole;standAt a.pos;agL [v] (truthy v))):
  PT X a (λσ H Q=>ta σ H λx H'=> ∃k,WL X.K x H' k/\Q k H'):=by
 intro pins s σ H Q I h;exact isTrue_plain (dD (ha pins s σ H _ I h) λv s1 ⟨x,H1,I1,r1,q1⟩=>QM pins s1 σ H1 x v Q I1 r1 q1) (he _)
theorem vals1 {x:V} {us:List Value} (r:Vals [x] us): ∃u,us= [u]/\RelV x u:=by
 cases r with
 |cons r1 r2=>cases r2;exact ⟨_,rfl,r1⟩
theorem vals2 {x y:V} {us:List Value} (r:Vals [x,y] us): ∃u w',us= [u,w']/\RelV x u/\RelV y w':=by
 cases r with
 |cons r1 r2=>
  cases r2 with
  |cons r3 r4=>cases r4;exact ⟨_,_,rfl,r1,r3⟩
theorem IP (hc:X.calm=true):jR X (.builtin "max") (λxs H Q=> ∃i j,xs= [.int i, .int j]/\Q (.int (if j>i then j else i)) H):=by
 intro pins s σ H xs us Q I r h;obtain ⟨i,j,rfl,q⟩:=h;obtain ⟨u,w',rfl,⟨t,rfl⟩,⟨t',rfl⟩⟩:=vals2 r;refine max_two_ints (I.ok.hd hc) λh' tk k=>⟨_,H,I.kept k,?_,q⟩
 by_cases hj:j>i
 ·rw [if_pos hj,if_pos hj];exact ⟨_,rfl⟩
 ·rw [if_neg hj,if_neg hj];exact ⟨_,rfl⟩
end
end L2
namespace L2
open PySem PySem.Spec PyProof.Rows
structure IY (h:afV) (x dx C:Addr) (mA:Str->Option Value):Prop where
 obj:h.get? x=some (eN C dx)
 ns:h.Ns1 dx mA
 ne:dx≠x
theorem HN {h:afV} {dx:Addr} {mA:Str->Option Value} (n:h.Ns1 dx mA): ∃od,h.get? dx=some od/\∀name,wC name od=some (mA name):=by
 obtain ⟨o,es,ep,ho,hd,hk,_,hm⟩:=n;refine ⟨o,ho,λname=>?_⟩;have e:=hm name;unfold nsFind findBy at e;rw [<-Array.find?_toList] at e;unfold wC;rw [hd];dsimp only;split
 ·rename_i y q
  rw [q] at e;exact congrArg some e
 ·rename_i q
  rw [q] at e;have a:es.toList.any (·.refKey)=false:=by
   rw [List.any_eq_false];intro y hy;obtain ⟨z,t,RX⟩:=hk y (Array.mem_toList_iff.mp hy);simp [DictEntry.refKey,RX]
  have a': ¬es.toList.any (·.refKey)=true:=by rw [a];exact aI
  rw [if_neg a'];exact congrArg some e
theorem IY.look {h:afV} {x dx C:Addr} {mA:Str->Option Value} (I:IY h x dx C mA): ∃od,PySem.W.InstAt h x (eN C dx) C (some od)/\∀name,wC name od=some (mA name):=
 let ⟨od,ho,hl⟩:=HN I.ns
 ⟨od,⟨I.obj,rfl,rfl,ho⟩,hl⟩
section
variable {prog:afZ} {w:afW} {A:af3} {E:Value->afU->Prop} {s:afU} {K:aa} {x dx C f:Addr} {mA:Str->Option Value} {name:Str} {v:Value}
theorem get_map {expr:Bool} {Q:Value->afU->Prop} (X:K.In s.heap) (I:IY s.heap x dx C mA) (hg:lC K C name=true) (hh:kb K C=true)
  (ha:eB K (.ref C) name=some none) (hv:mA name=some v) (Ti:Jb v=true) (h:Q v {s with toks:=s.toks+1}):
  wpAny (afY prog w) A (getAttr (.ref x) name expr) Q E s:=by
 obtain ⟨od,J,hl⟩:=I.look;exact PySem.W.get_value X J (PySem.W.plainGet_of hg).1 (PySem.W.findObj_own hh ha rfl (by rw [hl,hv])) Ti h
theorem NJ {ns:List Str} {Q:Unit->afU->Prop} (X:K.In s.heap) (I:IY s.heap x dx C mA)
  (hs:eB K (.ref C) "__setattr__" =some (some (.builtin "object.__setattr__"))) (hp:qY K C=true) (ht:tO K C name=some none) (hh:kb K C=true)
  (hw:Dd mA ns) (hsz:ns.length<=sizeLine)
  (h: ∀h',IY h' x dx C (λy=>if y=name then some v else mA y)->Heap.SameBut dx s.heap h'->Q () {s with heap:=h',toks:=s.toks+2}):
  wpAny (afY prog w) A (setAttr (.ref x) name v) Q E s:=by
 obtain ⟨od,J,hl⟩:=I.look;refine PySem.W.set_plain X J hs (PySem.W.osa_open (s:={s with toks:=s.toks+1}) (r:=none) X J hp ht λb=>?_);obtain ⟨cd,hc,hd'⟩:=PySem.W.any_some hh;have hx:s.heap.get? x=some ⟨.ref C,some dx, .plain, #[]⟩:=I.obj;refine afX (af2 (afX (afX (wpAny_loadPart hx (afX (PySem.W.Looks.here (s:={s with toks:=s.toks+1}) (PySem.W.looks_clsIn X hc) ?_))))));rw [hd'];refine af2 (a:=some dx) (afX (af2 (afX ?_)));refine wpAny_nsSet1 (s:={s with toks:=s.toks+1}) I.ns λh' VO RQ=>?_;obtain ⟨oD,esD,epD,hoD,hdD,hcD⟩:=VO.count (X3 name v hw);refine afX (wpAny_lookBehind hoD (by rw [hdD];exact pastItsLine_dict (aV hcD (by rw [aS];omega))) ?_);exact af2 (h _ ⟨(RQ.2 _ (fc I.ne)).trans I.obj,VO,I.ne⟩ RQ)
theorem KM {R:Result->afU->Prop} {vs:List Value} {kw:List (Str×Value)} (X:K.In s.heap) (hm:tP K C=true)
  (hi:eB K (.ref C) "__init__" =some (some (.ref f))) (hf:PySem.W.typeIn K (.ref f)=some (.type "function"))
  (h:codeAny (afY prog w) (A.under (.builtin "type.__call__" ⟨.ref C::vs,kw⟩)) (.call (.ref f) ⟨.ref (s.heap.objs.size+1)::vs,kw⟩) (PySem.W.InitBack (s.heap.objs.size+1) R)
   {s with heap:=(s.heap.push du).push (eN C s.heap.objs.size)}):
  codeAny (afY prog w) A (.call (.ref C) ⟨vs,kw⟩) R s:=by
 obtain ⟨hh,g,d,t,os⟩:=s;exact PySem.W.make_core (PySem.W.makes_of X hm) (PySem.W.looks_findIn X hi) (λself=>PySem.W.bind_fn X self hf) (.inl rfl) h
end
def kU (f:Str) (v:V):List (Str×V)->List (Str×V)
 | []=> [(f,v)]
 |(g,x)::r=>if g=f then (g,v)::r else (g,x)::kU f v r
theorem sG (f g:Str) (v:V): ∀fs:List (Str×V),(kU f v fs).lookup g=if g=f then some v else fs.lookup g
 | []=>by
  show fO g [(f,v)]=_;by_cases h:g=f
  ·have hb:(g==f)=true:=beq_iff_eq.mpr h;simp only [fO,hb,if_pos h]
  ·have hb:(g==f)=false:=beq_eq_false_iff_ne.mpr h;simp only [fO,hb,if_neg h]
 |(k,x)::r=>by
  have ih:=sG f g v r;rw [show kU f v ((k,x)::r)=(if k=f then (k,v)::r else (k,x)::kU f v r) from rfl];by_cases hk:k=f
  ·rw [if_pos hk];by_cases h:g=k
   ·have hb:(g==k)=true:=beq_iff_eq.mpr h;simp only [fO,hb,if_pos (h.trans hk)]
   ·have hb:(g==k)=false:=beq_eq_false_iff_ne.mpr h;simp only [fO,hb,if_neg (λe:g=f=>h (e.trans hk.symm))]
  ·rw [if_neg hk];by_cases h:g=k
   ·have hb:(g==k)=true:=beq_iff_eq.mpr h;simp only [fO,hb,if_neg (λe:g=f=>hk (h.symm.trans e))]
   ·have hb:(g==k)=false:=beq_eq_false_iff_ne.mpr h;simp only [fO,hb];exact ih
theorem rQ (f:Str) (v:V): ∀fs:List (Str×V),f∈(kU f v fs).map (·.1)/\∀g,g∈fs.map (·.1)->g∈(kU f v fs).map (·.1)
 | []=>⟨by simp [kU],λg h=>by simp at h⟩
 |(k,x)::r=>by
  obtain ⟨i1,i2⟩:=rQ f v r;rw [show kU f v ((k,x)::r)=(if k=f then (k,v)::r else (k,x)::kU f v r) from rfl];by_cases hk:k=f
  ·rw [if_pos hk];subst hk;exact ⟨by simp,λg h=>by simpa using h⟩
  ·rw [if_neg hk];refine ⟨?_,λg h=>?_⟩
   ·rw [bb];exact aE _ i1
   ·rw [bb] at h⊢;rcases aB.mp h with e|e
    ·exact aB.mpr (.inl e)
    ·exact aE _ (i2 g e)
theorem sH (f:Str) (v:V): ∀fs:List (Str×V),(kU f v fs).length<=fs.length+1
 | []=>by simp [kU]
 |(k,x)::r=>by
  have ih:=sH f v r;rw [show kU f v ((k,x)::r)=(if k=f then (k,v)::r else (k,x)::kU f v r) from rfl];by_cases hk:k=f
  ·rw [if_pos hk,aS,aS];omega
  ·rw [if_neg hk,aS,aS];omega
theorem jY.some_of {v:V} {o:Option Value} (r:jY (some v) o): ∃u,o=some u/\RelV v u:=by
 cases o with
 |none=>exact (show False from r).elim
 |some u=>exact ⟨u,rfl,r⟩
theorem jY.none_of {o:Option Value} (r:jY none o):o=none:=by
 cases o with
 |none=>rfl
 |some u=>exact (show False from r).elim
theorem Ik {v:V} {u:Value} (r:RelV v u):Jb u=true:=by
 cases v with
 |fE=>cases (show u=Value.none from r);rfl
 |bl b=>cases (show u=Value.bool b from r);rfl
 |int i=>obtain ⟨t,e⟩:=(show∃t,u=Value.int i t from r);cases e;rfl
 |str x=>obtain ⟨t,e⟩:=(show∃t,u=Value.str x t from r);cases e;rfl
 |Ac b=>obtain ⟨t,e⟩:=(show∃t,u=Value.bytes b t from r);cases e;rfl
 |Wt b=>obtain ⟨t,e⟩:=(show∃t,u=Value.float b t from r);cases e;rfl
 |ref a=>cases (show u=Value.ref a from r);rfl
 |ty n=>cases (show u=Value.type n from r);rfl
section
variable {P:afZ} {w:afW} {H H':Hp} {h h':afV} {a C dx:Addr} {fs Wk:List (Str×V)}
theorem F3 (cN:nT P w H h) (e:H a=some (.ins C dx fs)): ∃mA,IY h a dx C mA/\(∀f,jY (fs.lookup f) (mA f))/\Dd mA (fs.map (·.1))/\fs.length<=1000/\H dx=some (.own a):=by
 obtain ⟨d,z,ne,ob,mA,n,r,q⟩:=(show dR P w H h a (.ins C dx fs) from cN a _ e)
 exact ⟨mA,⟨ob,n,ne⟩,r,q,z,d⟩
end
structure E5 (K:aa) (C:Addr):Prop where
 pg:lC K C Str.empty=true
 hd:kb K C=true
 po:qY K C=true
 sa:eB K (.ref C) "__setattr__" =some (some (.builtin "object.__setattr__"))
theorem E5.get {K:aa} {C:Addr} (c:E5 K C) (f:Str):lC K C f=true:=c.pg
def bG (K:aa) (C:Addr) (f:Str):Prop:=eB K (.ref C) f=some none
theorem bG.T7 {K:aa} {C:Addr} {f:Str} (n:bG K C f):tO K C f=some none:=by
 unfold tO;rw [show eB K (.ref C) f=some none from n];rfl
section
variable {X:Cx} {pins:List (Addr×Obj)} {σ:St} {H:Hp} {s:afU} {a C dx:Addr} {fs:List (Str×V)} {f:Str} {v:V} {A:af3} {E:Value->afU->Prop}
theorem ED {b:Bool} {Q:Value->afU->Prop} (I:Inv X pins σ H s) (e:H a=some (.ins C dx fs)) (c:E5 X.K C) (n:bG X.K C f) (l:fs.lookup f=some v)
  (h: ∀u s',Inv X pins σ H s'->RelV v u->Q u s'):wpAny (afY X.prog X.w) A (getAttr (.ref a) f b) Q E s:=by
 obtain ⟨mA,O,r,_,_,_⟩:=F3 I.cN e;obtain ⟨u,hu,ru⟩:=jY.some_of (v:=v) (o:=mA f) (by rw [<-l];exact r f);exact get_map I.FZ O (c.get f) c.hd n hu (Ik ru) (h u _ (I.tok _) ru)
theorem DU {y:V} {u:Value} {Q:Unit->afU->Prop} (I:Inv X pins σ H s) (e:H a=some (.ins C dx fs)) (c:E5 X.K C) (n:bG X.K C f) (hl:fs.length<1000) (ry:RelV y u)
  (h: ∀s',Inv X pins σ (upd H a (.ins C dx (kU f y fs))) s'->Q () s'):wpAny (afY X.prog X.w) A (setAttr (.ref a) f u) Q E s:=by
 obtain ⟨mA,O,r,wi,_,ho⟩:=F3 I.cN e;have hz:(fs.map (·.1)).length<=sizeLine:=by rw [ab,af5];omega
 refine NJ I.FZ O c.sa c.po n.T7 c.hd wi hz λh' O' sb=>h _ ?_;have hd: ∃o,h'.get? dx=some o:=let ⟨o,_,_,e',_⟩:=O'.ns;⟨o,e'⟩
 refine I.write (x:=a) (e:=dx) (by rw [e];exact eZ) (.inr ho) (λb q hb z=>(sb.2 b hb).trans z) hd ?_;refine ⟨by rw [bK O.ne];exact ho,?_,O.ne,O'.obj,_,O'.ns,λg=>?_,λg hg=>?_⟩
 ·have:=sH f y fs;omega
 ·show jY ((kU f y fs).lookup g) (if g=f then some u else mA g);rw [sG];by_cases q:g=f
  ·rw [if_pos q,if_pos q];exact ry
  ·rw [if_neg q,if_neg q];exact r g
 ·by_cases q:g=f
  ·rw [q];exact (rQ f y fs).1
  ·refine (rQ f y fs).2 g (wi g λz=>hg ?_);show (if g=f then some u else mA g)=none;rw [if_neg q];exact z
theorem Inv.made (I:Inv X pins σ H s):Inv X pins σ (upd (upd H s.heap.objs.size (.own (s.heap.objs.size+1))) (s.heap.objs.size+1) (.ins C s.heap.objs.size []))
  {s with heap:=(s.heap.push du).push (eN C s.heap.objs.size)}:=by
 have e1:(s.heap.push du).get? s.heap.objs.size=some du:=Heap.get?_push_size s.heap rfl;have e2:((s.heap.push du).push (eN C s.heap.objs.size)).get? (s.heap.objs.size+1)=some (eN C s.heap.objs.size):=by
  have:=Heap.get?_push_size (s.heap.push du) (o:=eN C s.heap.objs.size) rfl
  rwa [Heap.size_push] at this
 have e3:(s.heap.push du).Ns s.heap.objs.size (λ_=>none):=⟨du, #[],_,e1,rfl,(λe he=>absurd he (by simp)),λ_=>rfl⟩
 have I1:=I.laid (a:=s.heap.objs.size) (o:= .own (s.heap.objs.size+1)) (h':=s.heap.push du) (t':=s.toks) (λb u q=>Heap.get?_push_of_some _ q) (ay _) ⟨_,e1⟩;refine I1.laid (a:=s.heap.objs.size+1) (o:= .ins C s.heap.objs.size []) (t':=s.toks) (λb u q=>Heap.get?_push_of_some _ q) (tV (Heap.size_push _ _)) ?_;have ne:s.heap.objs.size≠s.heap.objs.size+1:=bH (fH _);refine ⟨by rw [bK ne,ak],bw _,ne,e2,λ_=>none,(Heap.Ns1.of_empty e3).at λo q=>Heap.get?_push_of_some _ q,λ_=>eZ,λy hy=>absurd rfl hy⟩
theorem Pg {prog:afZ} {w:afW} {env:Env} {e:af0} {f:Str} {pos:Pos} {s:afU} {Q:Value->afU->Prop} (hb:agn e f env (eval e env)=eval e env)
  (h:wpAny (afY prog w) A (eval e env) (λo dz=>wpAny (afY prog w) A (getAttr o f true) Q E dz) E s):wpAny (afY prog w) A (eval (.Attribute e f pos) env) Q E s:=
 Attribute_any_ h (by rw [arm_eval_Attribute,hb])
end
inductive Mz (K:aa) (f:Str) (x:V) (H1:Hp) (Q:VK):Prop
 |mk (a:Addr) (C:Addr) (dx:Addr) (fs:List (Str×V)) (v:V):(x= .ref a)->(H1 a=some (.ins C dx fs))->(E5 K C)->(bG K C f)->(fs.lookup f=some v)->(Q v H1)->Mz K f x H1 Q
def NA (K:aa) (ta:TE) (f:Str):TE:=λσ H Q=>ta σ H λx H1=>Mz K f x H1 Q
def YG (K:aa) (ta tv:TE) (f:Str):TS:=λD σ H=>tv σ H λy H1=>ta σ H1 λx H2=> ∃a C dx fs,x= .ref a/\H2 a=some (.ins C dx fs)/\E5 K C/\bG K C f/\fs.length<1000/\
 D.nx σ (upd H2 a (.ins C dx (kU f y fs)))
section
variable {X:Cx} {o e value:af0} {f:Str} {pos pos' mK:Pos} {ta tv:TE}
theorem aT (he:PE X e ta) (hb:agn e f X.env (eval e X.env)=eval e X.env):PE X (.Attribute e f pos) (NA X.K ta f):=by
 intro pins s σ H Q I h;refine Pg hb (dD (he pins s σ H _ I h) λu s1 ⟨x,H1,I1,rx,a,C,dx,fs,v,ex,ea,c,n,l,q⟩=>?_);subst ex;obtain rfl:u=Value.ref a:=rx;exact ED I1 ea c n l λu' s2 I2 ru=>⟨v,H1,I2,ru,q⟩
theorem bW (ha:PE X o ta) (hv:PE X value tv) (hs:agv value (some (.Attribute o f pos')) pos.line X.env=pure false):PS X (.Assign [.Attribute o f pos'] value pos) (YG X.K ta tv f):=by
 intro pins s σ H D I h;refine plainObj_wpAny_Assign_Attribute (dD (hv pins s σ H _ I h) λu s1 ⟨y,H1,I1,ry,q⟩=>dD (ha pins s1 σ H1 _ I1 q) λov s2 ⟨x,H2,I2,rx,a,C,dx,fs,ex,ea,c,n,l,q2⟩=>?_) hs;subst ex;obtain rfl:ov=Value.ref a:=rx;exact DU I2 ea c n l ry λs3 I3=>⟨σ,_,I3,q2⟩
end
end L2
namespace L2
open PySem PySem.Spec PyProof.Rows
structure gP (k:Nat) (A:af3):Prop where
 hd:A.handled=none
 dp:A.depth+3*k+5<recursionLimit
 un:A.units+16*k+200<af7
theorem gP.mono {j k:Nat} {A:af3} (r:gP k A) (h:j<=k):gP j A:=⟨r.hd,by have:=r.dp;omega,by have:=r.un;omega⟩
theorem gP.deeper {k:Nat} {A:af3} (r:gP (k+1) A) (env:Env):gP k (A.deeper env):=
 ⟨r.hd,by have:=r.dp;show A.depth+1+3*k+5<_;omega,by have:=r.un;show A.units+3+16*k+200<_;omega⟩
theorem Ek {A:af3} {C:Addr} {us:List Value} {kw:List (Str×Value)}:(A.under (.builtin "type.__call__" ⟨.ref C::us,kw⟩)).depth=A.depth+1:=by
 first|rfl|simp [Around.under,Code.weight,Code.isCreation,Code.isGuard,Code.isCaller,Code.frames,Code.isFrame,guardIds]
theorem Ej {A:af3} {C:Addr} {us:List Value} {kw:List (Str×Value)}:(A.under (.builtin "type.__call__" ⟨.ref C::us,kw⟩)).units=A.units+1:=by
 first|rfl|simp [Around.under,Code.cUnits,Code.frames,Code.isFrame]
theorem gP.make {k:Nat} {A:af3} (r:gP (k+1) A) (C:Addr) (us:List Value) (kw:List (Str×Value)):gP k (A.under (.builtin "type.__call__" ⟨.ref C::us,kw⟩)):=
 ⟨r.hd,by have:=r.dp;rw [Ek];omega,by have:=r.un;rw [Ej];omega⟩
theorem gP.depth {k:Nat} {A:af3} (r:gP k A):A.depth<recursionLimit:=by have:=r.dp;omega
theorem gP.units {k:Nat} {A:af3} (r:gP k A):A.units+64<af7:=by have:=r.un;omega
def oS:TA:=λ_ H Q=>Q [] H
def iq (ta:TE) (tr:TA):TA:=λσ H Q=>ta σ H λx H1=>tr σ H1 λxs H2=>Q (x::xs) H2
section
variable {X:Cx} {e:af0} {es:List af0} {te:TE} {t:TA} {pos:Pos}
theorem ax:PA X [] oS:=λ_ _ _ _ H Q I h=>Calls.spliced_nil ⟨[],H,I, .nil,h⟩
theorem ae (ha:PE X e te) (hr:PA X es t) (hs:af1 (e::es) X.env=(false,eval e X.env)::af1 es X.env:=by rfl):PA X (e::es) (iq te t):=by
 intro pos pins s σ H Q I h;rw [hs];show wpAny _ _ (spliced ((false,eval e X.env)::af9 pos (af1 es X.env))) _ _ s;refine Calls.spliced_cons (dD (ha pins s σ H _ I h) λu s1 ⟨x,H1,I1,r1,q1⟩=>?_);exact dD (hr pos pins s1 σ H1 _ I1 q1) λus s2 ⟨xs,H2,I2,r2,q2⟩=>⟨x::xs,H2,I2, .cons r1 r2,q2⟩
def Yt (t:TA):TE:=λσ H Q=>t σ H λxs H1=>xs.length<=sizeLine/\∀p,H1 p=none->Q (.ref p) (upd H1 p (.tup xs))
def Yu (t:TA):TE:=λσ H Q=>t σ H λxs H1=>xs.length<=sizeLine/\∀p,H1 p=none->Q (.ref p) (upd H1 p (.lst xs))
theorem fB {x1} (h:PA X es t):PE X (.Tuple es x1 pos) (Yt t):=by
 intro pins s σ H Q I hq;refine wpAny_Tuple_spliced (dD (h pos pins s σ H _ I hq) λus s1 ⟨xs,H1,I1,r,z,q⟩=>⟨by rw [<-r.length];exact z,?_⟩);have hf:H1 s1.heap.objs.size=none:=I1.cN.fresh (ay _);refine ⟨.ref s1.heap.objs.size,upd H1 s1.heap.objs.size (.tup xs),I1.laid (t':=s1.toks) (λb u e=>Heap.get?_push_of_some _ e) (ay _) ?_,rfl,q _ hf⟩;exact ⟨z,us,r,⟨_,Heap.get?_push_size _ rfl,rfl,_,rfl⟩⟩
theorem bJ (h:PA X es t):PE X (.List es pos) (Yu t):=by
 intro pins s σ H Q I hq;refine wpAny_List_spliced (dD (h pos pins s σ H _ I hq) λus s1 ⟨xs,H1,I1,r,z,q⟩=>⟨by rw [<-r.length];exact z,?_⟩);have hf:H1 s1.heap.objs.size=none:=I1.cN.fresh (ay _);refine ⟨.ref s1.heap.objs.size,upd H1 s1.heap.objs.size (.lst xs),I1.laid (t':=s1.toks) (λb u e=>Heap.get?_push_of_some _ e) (ay _) ?_,rfl,q _ hf⟩;exact ⟨z,us,0,r,Heap.get?_push_size _ rfl⟩
end
abbrev Sp:=List V->Hp->VK->XK->Prop
abbrev Ja:=List Env->Hp->afU->XK->Value->afU->Prop
structure E3 (P:afZ) (w:afW) (K:aa) (mg:Str->Option Value) (base:afV) (A:af3) (outer:List Env) (s:afU) (H:Hp):Prop where
 frames:A.frames=some outer
 mod:Mod K mg base
 bs: ∀b o,base.get? b=some o->s.heap.get? b=some o/\H b=none
 Pe:base.objs.size<=s.heap.objs.size
 tH:s.heap.FunFrames base outer
 Sb: ∀b∈Lp outer,H b=none
 cN:nT P w H s.heap
 bare:AllBare s.gens
def CE (outer:List Env) (P:afZ) (w:afW) (H:Hp) (s:afU) (Q:VK) (u:Value) (s':afU):Prop:=
 ∃v H',s'.os=s.os/\AllBare s'.gens/\Un (Lp outer) [] H H' s.heap s'.heap/\nT P w H' s'.heap/\RelV v u/\Q v H'
def CR (CX:Ja) (outer:List Env) (P:afZ) (w:afW) (H:Hp) (s:afU) (Q:VK) (E:XK) (r:Result) (s':afU):Prop:=
 match r with
 | .ok (.ret u)=>CE outer P w H s Q u s'
 | .ok _=>False
 | .error e=>CX outer H s E e s'
structure jZ (P:afZ) (w:afW) (K:aa) (mg:Str->Option Value) (base:afV) (CX:Ja) (k:Nat) (f:Addr) (fd:agd) (ps:List Str) (sp:Sp):Prop where
 len: ∀vs H Q E,sp vs H Q E->vs.length=ps.length
 run: ∀(A:af3) (outer:List Env) (s:afU) (H:Hp) (args:Args) (us:List Value) (vs:List V) (Q:VK) (E:XK),gP k A->E3 P w K mg base A outer s H->agM s fd args (ps.zip us)->Vals vs us->sp vs H Q E->
  codeAny (afY P w) A (.call (.ref f) args) (CR CX outer P w H s Q E) s
theorem jZ.mono {P:afZ} {w:afW} {K:aa} {mg:Str->Option Value} {base:afV} {CX:Ja} {j k:Nat} {f:Addr} {fd:agd} {ps:List Str} {sp:Sp} (F:jZ P w K mg base CX j f fd ps sp) (h:j<=k):
  jZ P w K mg base CX k f fd ps sp:=⟨F.len,λA outer s H args us vs Q E hr=>F.run A outer s H args us vs Q E (hr.mono h)⟩
theorem E3.make {P:afZ} {w:afW} {K:aa} {mg:Str->Option Value} {base:afV} {A:af3} {outer:List Env} {s:afU} {H:Hp} (e:E3 P w K mg base A outer s H) (C:Addr) (us:List Value) (kw:List (Str×Value)):
  E3 P w K mg base (A.under (.builtin "type.__call__" ⟨.ref C::us,kw⟩)) outer s H:=⟨by first|exact e.frames|(simpa [Around.under,Code.envs,Code.isFrame,pushEnvs] using e.frames),e.mod,e.bs,e.Pe,e.tH,e.Sb,e.cN,e.bare⟩
section
variable {X:Cx} {pins:List (Addr×Obj)} {σ:St} {H:Hp} {s s':afU}
theorem Inv.Wx (I:Inv X pins σ H s):E3 X.prog X.w X.K X.mg X.base X.A X.stack s H:=
 ⟨I.ok.frames,I.ok.mod,I.bs,aV I.ok.Pe I.sz,I.stack,I.Fd,I.cN,I.bare⟩
theorem Inv.after {Q:VK} {u:Value} (I:Inv X pins σ H s) (h:CE X.stack X.prog X.w H s Q u s'):EP X pins σ Q u s':=by
 obtain ⟨v,H',os,bare,un,cN,r,q⟩:=h;obtain ⟨hh,g,d,t,os'⟩:=s';obtain rfl:os'=s.os:=os;exact ⟨v,H',I.call (h':=hh) (g':=g) (d':=d) (t':=t) (ch:= []) un cN bare (λb z=>absurd z (by simp)),r,q⟩
end
def Fb (sp:Sp) (Ch:List V) (E:XK) (t:TA):TE:=λσ H Q=>t σ H λvs H1=>sp (vs++Ch) H1 Q E
def Fa (C:Addr) (sp:Sp) (Ch:List V) (E:XK) (t:TA):TE:=λσ H Q=>t σ H λvs H1=> ∀x dx,H1 x=none->H1 dx=none->dx≠x->
 sp (.ref x::(vs++Ch)) (upd (upd H1 dx (.own x)) x (.ins C dx [])) (λv H2=>v= .fE/\Q (.ref x) H2) E
def Binds (K:aa) (fd:agd) (ps:List Str) (ds:List Value):Prop:=
 ∀(s:afU) (us:List Value),K.In s.heap->(us++ds).length=ps.length->agM s fd ⟨us,[]⟩ (ps.zip (us++ds))
theorem Binds.all {K:aa} {fd:agd} {ps:List Str} (h: ∀us:List Value,us.length=ps.length->bindArgs fd ⟨us,[]⟩=pure (ps.zip us)):Binds K fd ps []:=λs us _ hl=>by
 rw [dc] at hl⊢;exact .of_eq (h us hl)
def Passes (CX:Ja) (X:Cx) (E:XK):Prop:= ∀(pins:List (Addr×Obj)) (σ:St) (H:Hp) (s:afU) (e:Value) (s':afU),Inv X pins σ H s->CX X.stack H s E e s'->X.xe e s'
section
variable {X:Cx} {CX:Ja} {k:Nat} {f C:Addr} {fd:agd} {ps:List Str} {sp:Sp} {Ch:List V} {ds:List Value} {E:XK} {x m:Str} {p pos apos:Pos} {e o:af0} {es:List af0} {ta:TE} {t:TA}
theorem J6 {pins:List (Addr×Obj)} {σ:St} {H:Hp} {s:afU} {Q:VK} {us:List Value} {vs:List V} (F:jZ X.prog X.w X.K X.mg X.base CX k f fd ps sp) (hr:gP k X.A) (hb:Binds X.K fd ps ds) (hd:Vals Ch ds) (hx:Passes CX X E)
  (I:Inv X pins σ H s) (r:Vals vs us) (h:sp (vs++Ch) H Q E):wpAny (afY X.prog X.w) X.A (call (.ref f) us) (EP X pins σ Q) X.xe s:=by
 have r2:Vals (vs++Ch) (us++ds):=r.append hd;have hl:(us++ds).length=ps.length:=by rw [<-r2.length];exact F.len _ _ _ _ h
 refine ag8 (agF (F.run X.A X.stack s H ⟨us,[]⟩ (us++ds) (vs++Ch) Q E hr I.Wx (hb s us I.FZ hl) r2 h) λr s' hq=>?_);cases r with
 |error e=>exact hx pins σ H s e s' I hq
 |ok fl=>
  cases fl with
  |ret u=>exact I.after hq
  |next=>exact de hq
  |brk=>exact de hq
  |cont=>exact de hq
theorem N8 (F:jZ X.prog X.w X.K X.mg X.base CX k f fd ps sp) (hr:gP k X.A) (hg:Gl X x) (hm:X.mg x=some (.ref f)) (hk:eA X.K (.ref f)=true) (hb:Binds X.K fd ps ds) (hd:Vals Ch ds) (hx:Passes CX X E)
  (ha:PA X (e::es) t) (EB:(x==("__debug__" :Str))=false:=by decide) (he:af1 (e::es) X.env=(false,eval e X.env)::af1 es X.env:=by rfl) (hpl:(af9 pos (af1 es X.env)).any (·.1)=false:=by rfl):
  PE X (.Call (.Name x p) (e::es) [] pos) (Fb sp Ch E t):=by
 intro pins s σ H Q I h;refine agG (uh I hg hm ?_ EB);refine pY (h₀:=X.base) I.ok.mod.Vh hk (dD (ha pos pins s σ H _ I h) λus s1 ⟨vs,H1,I1,r,q⟩=>⟨I1.FZ,?_⟩) he hpl;exact J6 F hr hb hd hx I1 r q
structure Mk (K:aa) (C f:Addr):Prop where
 makes:tP K C=true
 init:eB K (.ref C) "__init__" =some (some (.ref f))
 fn:Pp K (.ref f)=true
 kp:eA K (.ref C)=true
theorem A6 {pins:List (Addr×Obj)} {σ:St} {H:Hp} {s:afU} {Q:VK} {us:List Value} {vs:List V} (M:Mk X.K C f) (F:jZ X.prog X.w X.K X.mg X.base CX k f fd ps sp) (hr:gP (k+1) X.A) (hb:Binds X.K fd ps ds) (hd:Vals Ch ds)
  (hx:Passes CX X E) (I:Inv X pins σ H s) (r:Vals vs us)
  (h: ∀x dx,H x=none->H dx=none->dx≠x->sp (.ref x::(vs++Ch)) (upd (upd H dx (.own x)) x (.ins C dx [])) (λv H2=>v= .fE/\Q (.ref x) H2) E):
  wpAny (afY X.prog X.w) X.A (call (.ref C) us) (EP X pins σ Q) X.xe s:=by
 have hq:=h (s.heap.objs.size+1) s.heap.objs.size (I.cN.fresh (lJ _)) (I.cN.fresh (ay _)) (bH (fH _));have I2:=Inv.made (C:=C) I;have r2:Vals (V.ref (s.heap.objs.size+1)::(vs++Ch)) (Value.ref (s.heap.objs.size+1)::(us++ds)):= .cons rfl (r.append hd);have hl:(Value.ref (s.heap.objs.size+1)::us++ds).length=ps.length:=by
  have e:=r2.length;rw [F.len _ _ _ _ hq] at e;exact e.symm
 refine ag8 (KM (f:=f) I.FZ M.makes M.init (beq_iff_eq.mp M.fn) (agF (F.run _ X.stack _ _ ⟨Value.ref (s.heap.objs.size+1)::us,[]⟩ (Value.ref (s.heap.objs.size+1)::(us++ds)) _ _ E (hr.make C us [])
  (I2.Wx.make C us []) (hb _ (Value.ref (s.heap.objs.size+1)::us) I2.FZ hl) r2 hq) λr s' P5=>?_))
 cases r with
 |error e=>exact hx pins σ _ _ e s' I2 P5
 |ok fl=>
  cases fl with
  |ret u=>
   obtain ⟨v,H',I3,rv,ev,q3⟩:=I2.after P5;subst ev;exact ⟨rv,⟨V.ref (s.heap.objs.size+1),H',I3,rfl,q3⟩⟩
  |next=>exact de P5
  |brk=>exact de P5
  |cont=>exact de P5
theorem N6 (M:Mk X.K C f) (F:jZ X.prog X.w X.K X.mg X.base CX k f fd ps sp) (hr:gP (k+1) X.A) (hg:Gl X x) (hm:X.mg x=some (.ref C)) (hb:Binds X.K fd ps ds) (hd:Vals Ch ds) (hx:Passes CX X E)
  (ha:PA X (e::es) t) (EB:(x==("__debug__" :Str))=false:=by decide) (he:af1 (e::es) X.env=(false,eval e X.env)::af1 es X.env:=by rfl) (hpl:(af9 pos (af1 es X.env)).any (·.1)=false:=by rfl):
  PE X (.Call (.Name x p) (e::es) [] pos) (Fa C sp Ch E t):=by
 intro pins s σ H Q I h;refine agG (uh I hg hm ?_ EB);refine pY (h₀:=X.base) I.ok.mod.Vh M.kp (dD (ha pos pins s σ H _ I h) λus s1 ⟨vs,H1,I1,r,q⟩=>⟨I1.FZ,?_⟩) he hpl;exact A6 M F hr hb hd hx I1 r q
theorem Kq (M:Mk X.K C f) (F:jZ X.prog X.w X.K X.mg X.base CX k f fd ps sp) (hr:gP (k+1) X.A) (hg:Gl X x) (hm:X.mg x=some (.ref C)) (hb:Binds X.K fd ps ds) (hd:Vals Ch ds) (hx:Passes CX X E)
  (EB:(x==("__debug__" :Str))=false:=by decide):PE X (.Call (.Name x p) [] [] pos) (Fa C sp Ch E oS):=by
 intro pins s σ H Q I h;refine agG (uh I hg hm ?_ EB);exact PySem.W.callWith_K0 I.FZ M.kp (A6 (us:= []) M F hr hb hd hx I .nil h)
end
def PK (X:Cx) (Vf:List agk) (t:TA):Prop:=
 ∀(pos:Pos) (pins:List (Addr×Obj)) (s:afU) (σ:St) (H:Hp) (Q:List V->Hp->Prop),Inv X pins σ H s->t σ H Q->wpAny (afY X.prog X.w) X.A (evalAll ((agx pos (agy Vf X.env)).map (·.2))) (AP X pins σ Q) X.xe s
section
variable {X:Cx} {CX:Ja} {k:Nat} {f C:Addr} {fd:agd} {ps ks:List Str} {sp:Sp} {E:XK} {x m:Str} {p pos apos Eu:Pos} {e o:af0} {es:List af0} {Vf:List agk} {te ta:TE} {t tk:TA} {nm:Option Str}
theorem Kn:PK X [] oS:=λ_ _ _ _ H Q I h=>wpAny_evalAll_nil ⟨[],H,I, .nil,h⟩
theorem FF (ha:PE X e te) (hr:PK X Vf t):PK X (⟨nm,e,Eu⟩::Vf) (iq te t):=by
 intro pos pins s σ H Q I h;show wpAny _ _ (evalAll ((do let v<-eval e X.env;standAt pos;pure v)::(agx pos (agy Vf X.env)).map (·.2))) _ _ s;refine wpAny_evalAll_cons (afX (dD (ha pins s σ H _ I h) λu s1 ⟨x,H1,I1,r1,q1⟩=>afX (agV (af2 ?_))));exact dD (hr pos pins s1 σ H1 _ I1 q1) λus s2 ⟨xs,H2,I2,r2,q2⟩=>⟨x::xs,H2,I2, .cons r1 r2,q2⟩
variable {g:List Value->List Value->List Value} {gV:List V->List V->List V}
end
structure ba (N P:List Str) (sc:af8):Prop where
 kind:sc.kind= .function
 co:sc.isCoroutine=false
 gen:sc.isGenerator=false
 nd:N.Nodup
 pre:N.take P.length=P
 par: ∀x∈P,sc.names.lookup x=some .local∨sc.names.lookup x=some .cell
 Rn: ∀y∈sc.names,y.2≠ .free
theorem yr {kindOf:Str->Option agf} {x:Str}: ∀{binds:List (Str×Value)} {m:Str->Option Value},(∀v,(x,v)∉binds)->bindL kindOf binds m x=m x
 | [],_,_=>rfl
 |(n,v)::r,m,h=>by
  unfold bindL;rw [yr λw hw=>h w (aE _ hw)];split
  ·have:x≠n:=by rintro rfl;exact h v aN
   simp [this]
  ·rfl
theorem yu {kindOf:Str->Option agf} {x:Str}: ∀{binds:List (Str×Value)} {m:Str->Option Value},(∀v,(x,v)∉binds)->bindC kindOf binds m x=m x
 | [],_,_=>rfl
 |(n,v)::r,m,h=>by
  unfold bindC;rw [yu λw hw=>h w (aE _ hw)];split
  ·rfl
  ·have:x≠n:=by rintro rfl;exact h v aN
   simp [this]
theorem yt {kindOf:Str->Option agf} {x:Str} {v:Value}: ∀{P:List Str} {vs:List Value} {i:Nat} {m:Str->Option Value},P.Nodup->P[i]?=some x->vs[i]?=some v->kindOf x=some .local->
  bindL kindOf (P.zip vs) m x=some v
 | [],_,_,_,_,h,_,_=>by simp at h
 |_::_,[],_,_,_,_,h,_=>by simp at h
 |p::P,w::vs,0,m,nd,h1,h2,hk=>by
  simp at h1 h2;subst h1;subst h2;show bindL kindOf ((p,w)::P.zip vs) m p=_;unfold bindL;rw [yr λv hv=>(bj.mp nd).1 (wU hv).1,if_pos hk];simp
 |p::P,w::vs,i+1,m,nd,h1,h2,hk=>by
  show bindL kindOf ((p,w)::P.zip vs) m x=_;unfold bindL;exact yt (i:=i) (bj.mp nd).2 (by simpa using h1) (by simpa using h2) hk
theorem yw {kindOf:Str->Option agf} {x:Str} {v:Value}: ∀{P:List Str} {vs:List Value} {i:Nat} {m:Str->Option Value},P.Nodup->P[i]?=some x->vs[i]?=some v->kindOf x≠some .local->
  bindC kindOf (P.zip vs) m x=some v
 | [],_,_,_,_,h,_,_=>by simp at h
 |_::_,[],_,_,_,_,h,_=>by simp at h
 |p::P,w::vs,0,m,nd,h1,h2,hk=>by
  simp at h1 h2;subst h1;subst h2;show bindC kindOf ((p,w)::P.zip vs) m p=_;unfold bindC;rw [yu λv hv=>(bj.mp nd).1 (wU hv).1,if_neg hk];simp
 |p::P,w::vs,i+1,m,nd,h1,h2,hk=>by
  show bindC kindOf ((p,w)::P.zip vs) m x=_;unfold bindC;exact yw (i:=i) (bj.mp nd).2 (by simpa using h1) (by simpa using h2) hk
def start (N:List Str) (vs:List V):St:=vs.map some++cQ (N.length-vs.length) none
def zW (CX:Ja) (P:afZ) (w:afW) (K:aa) (mg:Str->Option Value) (base:afV) (N:List Str) (qual:Str) (scope:af8) (f:Addr) (cd:Value) (A:af3) (outer:List Env) (s:afU) (H:Hp) (E:XK):Cx where
 prog:=P
 w:=w
 K:=K
 mg:=mg
 base:=base
 A:=A.deeper (envOfC qual scope s.heap.objs.size f cd)
 N:=N
 xQ:=s
 SU:=H
 env:=envOfC qual scope s.heap.objs.size f cd
 outer:=outer
 stack:=envOfC qual scope s.heap.objs.size f cd::outer
 ex:= []
 calm:=true
 fn:=λ_=>true
 pn:= []
 xe:=λe s'=>wpAny (afY P w) (A.deeper (envOfC qual scope s.heap.objs.size f cd)) (leaving (envOfC qual scope s.heap.objs.size f cd) e) (λ_ YI=>CX outer H s E e YI) (λe' YI=>CX outer H s E e' YI) s'
theorem Cq {sc:af8} {n:Nat} {x:Str} (h:sc.names.lookup x=some .cell): ∃c,(aga n sc.names []).lookup x=some c:=by
 have q:=Ap sc.names n [] (.inl h);exact yO.mp q
theorem HX {CX:Ja} {P:afZ} {w:afW} {K:aa} {mg:Str->Option Value} {base:afV} {N ps:List Str} {qual:Str} {scope:af8} {f:Addr} {cd:Value} {A:af3} {outer:List Env} {s s1:afU} {H:Hp} {E:XK} {us:List Value} {vs:List V}
  (S:ba N ps scope) (hd:A.handled=none) (e0:E3 P w K mg base A outer s H) (hl:vs.length=ps.length) (r:Vals vs us)
  (x:InCallC s s.heap.objs.size (bindL (envOfC qual scope s.heap.objs.size f cd).kindOf (ps.zip us) λ_=>none) (aga (s.heap.objs.size+1) scope.names []) (bindC (envOfC qual scope s.heap.objs.size f cd).kindOf (ps.zip us) λ_=>none) s1):
  Inv (zW CX P w K mg base N qual scope f cd A outer s H E) [] (start N vs) H s1:=by
 have hpl:ps.length<=N.length:=by have:=congrArg wG S.pre;rw [bc] at this;omega
 obtain ⟨h1,tk,rfl,hk⟩:=x.done;have Ta: ∀b:Addr,b∉(zW CX P w K mg base N qual scope f cd A outer s H E).ex:=λb z=>absurd (show b∈([]:List Addr) from z) (by simp);refine ⟨⟨e0.mod,S.kind,rfl,rfl,ay _,λy z c h1 h2=>?_,λy hy=>?_,λy c _ h=>?_,λ_=>hd,Around.frames_deeper e0.frames, .inr ⟨rfl,rfl⟩,λb z=>absurd z (Ta b),e0.bs,e0.Pe,λb _ _=>Ta b,λb z=>absurd z (Ta b),e0.tH,e0.Sb⟩,
  rfl,e0.bare,Un.kept hk,⟨_,x.toInCall.ns,λi y v h1 h2 h3=>?_⟩,λy c h=>⟨_,x.cell y c h⟩,e0.cN.fresh (ay _),λy c h=>?_,λp hp=>absurd (show p∈([]:List (Addr×Obj)) from hp) (by simp),e0.cN.kept hk,?_⟩
 ·exact name_of_addr x.apart (bN h1) (bN h2)
 ·have hy:scope.names.lookup y=some .cell∨scope.names.lookup y=some .free:=hy;rcases hy with hy|hy
  ·exact Cq hy
  ·exact absurd rfl (S.Rn _ (bN hy))
 ·exact j1 (x.above y c (bN h))
 ·have hi:i<vs.length:=by
   unfold start at h2;by_cases hi:i<vs.length
   ·exact hi
   ·rw [cy (by simpa using hi)] at h2;rw [List.getElem?_replicate] at h2;split at h2<;>cases h2
  have ha:vs[i]?=some v:=by
   unfold start at h2;rw [bV (by simpa using hi),bp] at h2;cases e:vs[i]? with
   |none=>rw [e] at h2;cases h2
   |some a=>rw [e] at h2;cases h2;rfl
  obtain ⟨u,hu,rv⟩:=r.get ha;have hp:ps[i]?=some y:=by
   rw [<-S.pre,List.getElem?_take_of_lt (by omega)];exact h1
  have ndP:ps.Nodup:=by rw [<-S.pre];exact S.nd.sublist (List.take_sublist _ _)
  refine ⟨u,rv,?_⟩;rcases S.par y (aH hp) with k|k
  ·exact .inl ⟨k,yt ndP hp hu k⟩
  ·obtain ⟨c,e⟩:=Cq (n:=s.heap.objs.size+1) k;refine .inr ⟨.inl k,c,e,?_⟩;have q:=x.cell y c e;rw [yw ndP hp hu (by show scope.names.lookup y≠_;rw [k];decide)] at q;exact q
 ·exact e0.cN.fresh (j1 (x.above y c (bN h)))
 ·unfold start;show _=N.length;rw [aK,ab,List.length_replicate];omega
theorem Wo {CX:Ja} {P:afZ} {w:afW} {K:aa} {mg:Str->Option Value} {base:afV} {k:Nat} {f:Addr} {name qual:Str} {params:Arguments} {body:List af6} {scope:af8} {dV kV doc pm db ct oc:Value} {an od:Option Addr}
  {wJ:Array (Option Value)} {N ps:List Str} {sp:Sp} (lk:K.lookup f=some ⟨oc,od, .func (eT name qual params body scope dV kV doc pm an db ct),wJ⟩) (Ii:jS K db qual=true) (S:ba N ps scope)
  (len: ∀vs H Q E,sp vs H Q E->vs.length=ps.length)
  (Lh: ∀(A:af3) (outer:List Env) (s:afU) (H:Hp) (vs:List V) (Q:VK) (E:XK),gP k (A.deeper (envOfC qual scope s.heap.objs.size f db))->sp vs H Q E->
   ∃t,Du (zW CX P w K mg base N qual scope f db A outer s H E) body t/\t {nx:=λ_ H'=>Q .fE H',rt:=Q} (start N vs) H):
  jZ P w K mg base CX (k+1) f (eT name qual params body scope dV kV doc pm an db ct) ps sp:=by
 refine ⟨len,λA outer s H args us vs Q E hr e0 hb r M3=>?_⟩;have hl:=len _ _ _ _ M3;have KX:K.In s.heap:=e0.mod.Vh.keeps λb o e=>(e0.bs b o e).1;have lim:s.heap.NoLimit:=e0.mod.nolimit.keeps λb o e=>(e0.bs b o e).1;have VY: ∀y∈ps.zip us,scope.names.lookup y.1=some .local∨(scope.names.lookup y.1=some .cell/\((aga (s.heap.objs.size+1) scope.names []).lookup y.1).isSome=true):=λ⟨n,v⟩ hy=>by
  rcases S.par n (wU hy).1 with q|q
  ·exact .inl q
  ·exact .inr ⟨q,Ap _ _ _ (.inl q)⟩
 refine codeAny_call_function hr.depth (KX _ _ lk) rfl S.co S.gen rfl (PySem.W.codeRec_of KX Ii) (hb _ _ _ _ ?_);refine wpAny_newFunctionEnv_cells S.kind VY λenv he s1 x=>?_;subst he;refine ⟨lim.keeps x.toInCall.keep,codeAny_func ?_⟩;obtain ⟨t,ht,hq⟩:=Lh A outer s H vs Q E (hr.deeper _) M3;have I:Inv (zW CX P w K mg base N qual scope f db A outer s H E) [] (start N vs) H s1:=HX S hr.hd e0 hl r x;refine wpAny_mono (ht [] s1 (start N vs) H _ I hq) (λfl s' hs=>?_) λe s' hs=>hs;have fin: ∀{eM:St} {H':Hp} {v:V} {u:Value},Inv (zW CX P w K mg base N qual scope f db A outer s H E) [] eM H' s'->RelV v u->Q v H'->CE outer P w H s Q u s':=
  λ{eM H' v u} J rv q=>⟨v,H',J.os,J.bare,J.base,J.cN,rv,q⟩
 cases fl with
 |ret u=>
  obtain ⟨v,eM,H',J,rv,q⟩:=hs;exact fin J rv q
 |next=>
  obtain ⟨eM,H',J,q⟩:=hs;exact fin (v:=V.fE) (u:=Value.none) J rfl q
 |brk=>
  obtain ⟨_,_,_,q⟩:=hs;exact de q
 |cont=>
  obtain ⟨_,_,_,q⟩:=hs;exact de q
end L2
namespace L2
open PySem PySem.Spec PyProof.Rows
section
variable {X:Cx} {x:Str} {p pos:Pos} {e:af0} {es:List af0} {t:TA} {id T:String} {r:List V->Hp->VK->Prop}
def S6 (r:List V->Hp->VK->Prop) (t:TA):TE:=λσ H Q=>t σ H λvs H1=>r vs H1 Q
theorem dU (hc:jR X (.builtin id) r) (hg:Gl X x) (hm:X.mg x=none) (hv:agK x=some (.builtin id)) (ha:PA X (e::es) t) (hn:x≠"__name__" :=by decide) (EB:(x==("__debug__" :Str))=false:=by decide)
  (he:af1 (e::es) X.env=(false,eval e X.env)::af1 es X.env:=by rfl) (hpl:(af9 pos (af1 es X.env)).any (·.1)=false:=by rfl):PE X (.Call (.Name x p) (e::es) [] pos) (S6 r t):=by
 intro pins s σ H Q I h;refine agG (lZ I hg hm hv ?_ hn EB);exact Yj (dD (ha pos pins s σ H _ I h) λus s1 ⟨vs,H1,I1,r1,q1⟩=>hc pins s1 σ H1 vs us Q I1 r1 q1) he hpl
theorem xW (hc:jR X (.type T) r) (hg:Gl X x) (hm:X.mg x=none) (hv:agK x=some (.type T)) (ha:PA X (e::es) t) (hn:x≠"__name__" :=by decide) (EB:(x==("__debug__" :Str))=false:=by decide)
  (he:af1 (e::es) X.env=(false,eval e X.env)::af1 es X.env:=by rfl) (hpl:(af9 pos (af1 es X.env)).any (·.1)=false:=by rfl):PE X (.Call (.Name x p) (e::es) [] pos) (S6 r t):=by
 intro pins s σ H Q I h;refine agG (lZ I hg hm hv ?_ hn EB);exact cX (dD (ha pos pins s σ H _ I h) λus s1 ⟨vs,H1,I1,r1,q1⟩=>hc pins s1 σ H1 vs us Q I1 r1 q1) he hpl
end
end L2
namespace HT
open PySem PyProof.Rows
def lexLt:List Int->List Int->Bool
 | [],[]=>false
 | [],_::_=>true
 |_::_,[]=>false
 |x::xs,y::ys=>if x=y then lexLt xs ys else decide (x<y)
theorem vC (x y:Int) (xs ys:List Int):lexLt (x::xs) (y::ys)=if x=y then lexLt xs ys else decide (x<y):=rfl
theorem xg:lexLt [] []=false:=rfl
theorem vA (y:Int) (ys:List Int):lexLt [] (y::ys)=true:=rfl
theorem vB (x:Int) (xs:List Int):lexLt (x::xs) []=false:=rfl
theorem Me (A:af3) (s:afU) (a:Int) (t:Tok) (c:Int) (u:Tok): ∃e,SeqAt.EqAt A s (.int a t) (.int c u) e/\(e=true↔a=c):=
 ⟨(a==c),SeqAt.EqAt.int_int a t c u,by simp⟩
theorem Kg (A:af3) (s:afU) (a:Int) (t:Tok) (c:Int) (u:Tok) (prog:afZ) (w:afW) (E:Value->afU->Prop) (Q:Value->afU->Prop) (h:Q (.bool (decide (a<c))) s):
  wpAny (afY prog w) A (agW .Lt (.int a t) (.int c u)) Q E s:=
 (Yi h:wpAny (afY prog w) A (age .Lt (.int a t) (.int c u)) Q E s)
section
open PySem.SeqAt
open PySem.AutoSeq1 (wpAny_loadPart')
open PySem.MeetsSeq PySem.MeetsSeq2 PySem.MeetsSeq3
theorem w4 (l b:Addr) (items kq:Array Value) (n n2:Nat) (dd Qn:Option Addr) (sl PH:Array (Option Value)) (ns ms:List Int) (hi:IntsAre items.toList ns) (hj:IntsAre kq.toList ms):
  Meets (agg.«tuple.__lt__» ⟨[.ref l, .ref b],[]⟩)
   (λ_ R s=>s.heap.get? l=some {cls:= .type "tuple",dict:=dd,data:= .seq items n,slots:=sl}/\s.heap.get? b=some {cls:= .type "tuple",dict:=Qn,data:= .seq kq n2,slots:=PH}/\
    R (.ok (.ret (.bool (lexLt ns ms)))) s):=
 .of_wp λprog w A R s h=>by
  obtain ⟨hp,g,d,tk,os⟩:=s;obtain ⟨hl,hb,h⟩:=h;have f2:=AutoSeq1.sub_tuple_tuple;have z1:items.size=ns.length:=by rw [<-hi.length];simp
  have z2:kq.size=ms.length:=by rw [<-hj.length];simp
  wp_walk using wpAny_loadPart' hl,wpAny_loadPart' hb,wpAny_forIn_list _ (λrest b s'=>b.1=none/\s'=⟨hp,g,d,tk,os⟩/\∃(vs ws:List Value) (xY Tf:List Int),rest=vs.zip ws/\
   IntsAre vs xY/\IntsAre ws Tf/\xY.length+kq.size=Tf.length+items.size/\R (.ok (.ret (.bool (lexLt xY Tf)))) ⟨hp,g,d,tk,os⟩) _
  case turn=>
   rintro ⟨y,x⟩ rest b s' ⟨P9,rfl,vs,ws,xY,Tf,hz,ZF,RN,hlen,hR⟩;cases ZF with
   |nil=>rw [List.zip_nil_left] at hz;cases hz
   |cons a t ZE=>
    cases RN with
    |nil=>rw [List.zip_nil_right] at hz;cases hz
    |cons c u Zz=>
     rw [rp] at hz;injection hz with hyx K3;injection hyx with hy hx;subst hy hx;rw [vC] at hR;simp only [aS] at hlen;obtain ⟨e,he,V1⟩:=Me A.in1 ⟨hp,g,d,tk,os⟩ a t c u;refine afX (he prog w _ _ ?_);cases e with
     |true=>
      rw [if_pos (V1.mp rfl)] at hR
      wp_walk
      exact ⟨rfl,rfl,_,_,_,_,K3,ZE,Zz,by omega,hR⟩
     |false=>
      rw [if_neg (λq=>absurd (V1.mpr q) aI)] at hR;have Dm:=Kg A.in1 ⟨hp,g,d,tk,os⟩ a t c u prog w
      wp_walk using Dm
      exact ⟨_,rfl,by simpa using hR⟩
  case fin=>
   rintro ⟨b1,b2⟩ s' ⟨P9,rfl,vs,ws,xY,Tf,hz,ZF,RN,hlen,hR⟩;simp only at P9;subst P9;have hv:lexLt xY Tf=decide (items.size<kq.size):=by
    cases ZF with
    |nil=>
     cases RN with
     |nil=>
      simp only [dA] at hlen;rw [xg];exact (decide_eq_false (by omega)).symm
     |cons c u hw=>
      simp only [dA,aS] at hlen;rw [vA];exact (decide_eq_true (by omega)).symm
    |cons a t hv=>
     cases RN with
     |nil=>
      simp only [dA,aS] at hlen;rw [vB];exact (decide_eq_false (by omega)).symm
     |cons c u hw=>
      rw [rp] at hz;cases hz
   rw [hv] at hR
   wp_walk
   exact ⟨_,rfl,by simpa [Builtin.Tuple.tupleCompareSizes] using hR⟩
  case h=>
   exact ⟨rfl,rfl,items.toList,kq.toList,ns,ms,rfl,hi,hj,by omega,h⟩
end
section
variable {prog:afZ} {w:afW} {A:af3} {E:Value->afU->Prop} {s:afU}
theorem El {l b:Addr} {items kq:Array Value} {ns ms:List Int} {Q:Value->afU->Prop} (hl:IsTup s.heap l items) (hb:IsTup s.heap b kq) (hi:IntsAre items.toList ns) (hj:IntsAre kq.toList ms)
  (hu:A.units<af7) (h:Q (.bool (lexLt ns ms)) s):wpAny (afY prog w) A (age .Lt (.ref l) (.ref b)) Q E s:=by
 obtain ⟨⟨cls,dd,data,sl⟩,ho,hc,n,hd⟩:=id hl;obtain ⟨⟨ae3,Qn,data2,PH⟩,ho2,V8,n2,hd2⟩:=id hb;simp only at hc hd V8 hd2;subst hc hd V8 hd2;exact richCompare_meets_room (op:= .Lt) ⟨_,ho,rfl⟩ ⟨_,ho2,rfl⟩ PySem.F.slot_tuple_lt PySem.F.entry_tuple_lt (PySem.F.args_tuple_lt_2 _ _) (w4 l b items kq n n2 dd Qn sl PH ns ms hi hj)
  ⟨ho,ho2,show Value.bool (lexLt ns ms)≠Value.notImplemented/\Q (.bool (lexLt ns ms)) s from ⟨(λx=>nomatch x),h⟩⟩ hu
def zh (n d:Nat):Option Int->Nat
 |none=>d
 |some v=>if v<0 then (v+(n:Int)).toNat else min v.toNat n
end
end HT
namespace L2
open PySem PySem.Spec PyProof.Rows
abbrev TO:=St->Hp->(Option Int->Hp->Prop)->Prop
def PO (X:Cx) (e:Option af0) (t:TO):Prop:=
 ∀(pins:List (Addr×Obj)) (s:afU) (σ:St) (H:Hp) (Q:Option Int->Hp->Prop),Inv X pins σ H s->t σ H Q->
  wpAny (afY X.prog X.w) X.A (evalPart e X.env) (λu s'=> ∃o H',Inv X pins σ H' s'/\IsPart u o/\Q o H') X.xe s
def Uc (t:TE):TO:=λσ H Q=>t σ H λx H1=> ∃i,x= .int i/\Q (some i) H1
theorem intsAre_of {ns:List Int}: ∀{us:List Value},Vals (ns.map V.int) us->IntsAre us ns:=by
 induction ns with
 |nil=>intro us r;rw [gK] at r;cases r;exact .nil
 |cons n ns ih=>
  intro us r;rw [bb] at r;cases r with
  |cons r1 r2=>
   obtain ⟨t,e⟩:=r1;subst e;exact .cons n t (ih r2)
section
variable {X:Cx} {e:af0} {te:TE} {lo hi:Option af0} {tl th:TO} {pos p2:Pos}
theorem iJ (h:PE X e te):PO X (some e) (Uc te):=by
 intro pins s σ H Q I hw;rw [evalPart_some];refine dD (h pins s σ H _ I hw) λu s1 ⟨x,H1,I1,r1,q1⟩=>?_;obtain ⟨i,rfl,q⟩:=q1;obtain ⟨t,rfl⟩:=r1;exact ⟨some i,H1,I1, .int i t,q⟩
def SlR (X:Cx) (r:V->Option Int->Option Int->Hp->VK->Prop):Prop:=
 ∀(pins:List (Addr×Obj)) (s:afU) (σ:St) (H:Hp) (x:V) (v vl vu:Value) (lo hi:Option Int) (sl:Addr) (Q:VK),Inv X pins σ H s->RelV x v->s.heap.IsSliceOf sl vl vu .none->IsPart vl lo->IsPart vu hi->r x lo hi H Q->
  ∃T id,typeLookup (.type T) "__getitem__" =pure (some (.builtin id))/\s.TypeIs v T/\wpAny (afY X.prog X.w) X.A (agN v (.ref sl)) (EP X pins σ Q) X.xe s
def tSl (r:V->Option Int->Option Int->Hp->VK->Prop) (te:TE) (tl th:TO):TE:=λσ H Q=>te σ H λx H1=>tl σ H1 λl H2=>th σ H2 λu H3=>r x l u H3 Q
theorem qz {r:V->Option Int->Option Int->Hp->VK->Prop} (hr:SlR X r) (he:PE X e te) (hl:PO X lo tl) (hu:PO X hi th):PE X (.Subscript e (.Slice lo hi none p2) pos) (tSl r te tl th):=by
 intro pins s σ H Q I h;refine Subscript_ (dD (he pins s σ H _ I h) λv s1 ⟨x,H1,I1,r1,q1⟩=>?_);refine wpAny_Slice (dD (hl pins s1 σ H1 _ I1 q1) λvl s2 ⟨l,H2,I2,pl,q2⟩=>dD (hu pins s2 σ H2 _ I2 q2) λvu s3 ⟨u,H3,I3,pu,q3⟩=>?_);rw [evalPart_none];refine af2 ?_;have I4:Inv X pins σ H3 {s3 with heap:=s3.heap.push {cls:= .type "slice",data:= .fields #[vl,vu, .none]}}:=I3.kept (t':=s3.toks) λb ob q=>Heap.get?_push_of_some _ q;obtain ⟨T,id,hT,ht,hg⟩:=hr pins {s3 with heap:=s3.heap.push {cls:= .type "slice",data:= .fields #[vl,vu, .none]}} σ H3 x v vl vu l u s3.heap.objs.size Q I4 r1 (Heap.IsSliceOf.new ..) pl pu q3;show wpAny (afY X.prog X.w) X.A (subscriptTail e (.Slice lo hi none p2) v (.ref s3.heap.objs.size)) (EP X pins σ Q) X.xe {s3 with heap:=s3.heap.push {cls:= .type "slice",data:= .fields #[vl,vu, .none]}};exact tail_any (ops:= [.ref s3.heap.objs.size,v]) ht hT hg (by with_unfolding_all rfl)
def rY (xs:List V) (lo hi:Option Int):List V:=(xs.drop (HT.zh xs.length 0 lo)).take (HT.zh xs.length xs.length hi-HT.zh xs.length 0 lo)
theorem Co (xs:List V) (lo hi:Option Int):(rY xs lo hi).length<=xs.length:=by
 unfold rY;rw [bc,mJ];omega
end
end L2
namespace L2
open PySem PySem.Spec PyProof.Rows
def Jh (n:Nat) (i:Int):Option Nat:=if 0<=i then (if i<n then some i.toNat else none) else if-(n:Int)<=i then some (i+n).toNat else none
def Jl {α:Type} (xs:List α) (i:Int):Option α:=(Jh xs.length i).bind λj=>xs[j]?
theorem F0 {n:Nat} {i:Int} {j:Nat} (h:Jh n i=some j):seqIndex? i n=some j/\j<n/\ -(n:Int)<=i/\i<n:=by
 unfold Jh at h;by_cases h0:0<=i
 ·rw [if_pos h0] at h;by_cases h1:i<n
  ·rw [if_pos h1] at h;have e:i.toNat=j:=bx h;exact ⟨by rw [seqIndex_of h0 h1,e],by omega,by omega,h1⟩
  ·rw [if_neg h1] at h;cases h
 ·rw [if_neg h0] at h;by_cases h1: -(n:Int)<=i
  ·rw [if_pos h1] at h;have e:(i+n).toNat=j:=bx h;exact ⟨by rw [seqIndex_neg (by omega) h1,e],by omega,h1,by omega⟩
  ·rw [if_neg h1] at h;cases h
theorem Go {α:Type} {xs:List α} {i:Int} {v:α} (h:Jl xs i=some v): ∃j,seqIndex? i xs.length=some j/\xs[j]?=some v/\j<xs.length/\ -(xs.length:Int)<=i/\i<xs.length:=by
 unfold Jl at h;cases e:Jh xs.length i with
 |none=>rw [e] at h;cases h
 |some j=>
  rw [e] at h;obtain ⟨h1,h2,h3,h4⟩:=F0 e;exact ⟨j,h1,h,h2,h3,h4⟩
theorem Pi {α:Type} {xs:List α} {j:Nat} {v:α} (h:xs[j]?=some v):Jl xs (j:Int)=some v:=by
 have hj:j<xs.length:=(aJ.mp h).1;have e:Jh xs.length (j:Int)=some j:=by
  unfold Jh;rw [if_pos (by omega),if_pos (by omega)];simp
 unfold Jl;rw [e];exact h
theorem Mt {α:Type} (xs:List α) (v:α):Jl (xs++ [v]) (-1)=some v:=by
 have hl:(xs++ [v]).length=xs.length+1:=by simp
 have e:Jh (xs++ [v]).length (-1)=some xs.length:=by
  unfold Jh;rw [hl,if_neg (by decide),if_pos (by omega)]
  congr 1
  omega
 unfold Jl;rw [e];show (xs++ [v])[xs.length]?=some v;simp
def Aj (b:af0):Prop:= ∀o i,ag9 b false o i=operate [o,i] (agN o i)
def IxR (X:Cx) (r:R2):Prop:=
 ∀(value slice:af0) (pins:List (Addr×Obj)) (s:afU) (σ:St) (H:Hp) (x y:V) (v u:Value) (Q:VK),Inv X pins σ H s->RelV x v->RelV y u->r x y H Q->
  ag9 slice false v u=operate [v,u] (agN v u)->wpAny (afY X.prog X.w) X.A (subscriptTail value slice v u) (EP X pins σ Q) X.xe s
def MtR (X:Cx) (id:String) (r:V->List V->Hp->VK->Prop):Prop:=
 ∀(pins:List (Addr×Obj)) (s:afU) (σ:St) (H:Hp) (x:V) (xs:List V) (v:Value) (us:List Value) (Q:VK),Inv X pins σ H s->RelV x v->Vals xs us->r x xs H Q->
  wpAny (afY X.prog X.w) X.A (call (.builtin id) (v::us)) (EP X pins σ Q) X.xe s
section
variable {X:Cx} {a b:af0} {ta tb:TE} {pos:Pos}
theorem bf {r:R2} (hr:IxR X r) (ha:PE X a ta) (hb:PE X b tb) (hs:Aj b):PE X (.Subscript a b pos) (QP r ta tb):=by
 intro pins s σ H Q I h;exact Subscript_ (SL ha hb I h λv u s2 x y H2 I2 rx ry q=>hr a b pins s2 σ H2 x y v u Q I2 rx ry q (hs _ _))
inductive QC (K:aa) (x:V) (y:V) (H:Hp) (Q:VK):Prop
 |mk (p:Addr) (xs:List V) (i:Int) (v:V):(x= .ref p)->(y= .int i)->(iL K H p xs)->(Jl xs i=some v)->(Q v H)->QC K x y H Q
def NZ (K:aa):R2:=λx y H Q=>QC K x y H Q
inductive QB (K:aa) (x:V) (y:V) (H:Hp) (Q:VK):Prop
 |mk (p:Addr) (xs:List V) (i:Int) (v:V):(x= .ref p)->(y= .int i)->(Ah K H p xs)->(Jl xs i=some v)->(Q v H)->QB K x y H Q
def UQ (K:aa):R2:=λx y H Q=>QB K x y H Q
theorem aY:IxR X (NZ X.K):=by
 intro value slice pins s σ H x y v u Q I rx ry h hs;obtain ⟨p,xs,i,z,rfl,rfl,hq,he,q⟩:=h;cases rx;obtain ⟨t,rfl⟩:=ry;obtain ⟨its,r,pl,hz⟩:=I.list hq;obtain ⟨j,h1,h2,h3,h4,h5⟩:=Go he;obtain ⟨w,ew,u4⟩:=r.get h2;have hl:=r.length;have hn:=vz;have fin:EP X pins σ Q w s:=⟨z,H,I,u4,q⟩
 by_cases h0:0<=i
 ·have hj:i.toNat=j:=by
   rw [seqIndex_of h0 h5] at h1;exact bx h1
  exact item_listR pl.isList h0 (by omega) (by rw [hj];simpa using ew) fin hs
 ·have hj:(i+(its.toArray.size:Int)).toNat=j:=by
   rw [seqIndex_neg (by omega) h4] at h1;rw [be, <-hl];exact bx h1
  exact subscriptTail_builtinR (x:=w) pl.isList.typeIs slot_list_getitem.lookup
   (wpAny_getItem_list_neg (Q:=λr s'=>r=w/\EP X pins σ Q r s') pl.isList (by omega) (by rw [be] <;>omega) (by omega) (by rw [hj];simpa using ew) ⟨rfl,fin⟩) hs
theorem cI:IxR X (UQ X.K):=by
 intro value slice pins s σ H x y v u Q I rx ry h hs;obtain ⟨p,xs,i,z,rfl,rfl,hq,he,q⟩:=h;cases rx;obtain ⟨t,rfl⟩:=ry;obtain ⟨its,r,pl,hz⟩:=I.tuple hq;obtain ⟨j,h1,h2,h3,h4,h5⟩:=Go he;obtain ⟨w,ew,u4⟩:=r.get h2;have hl:=r.length;have hn:=vz;have fin:EP X pins σ Q w s:=⟨z,H,I,u4,q⟩
 exact subscriptTail_builtinR (x:=w) pl.typeIs slot_tuple_getitem.lookup
  (getItem_tuple (j:=j) (Q:=λr s'=>r=w/\EP X pins σ Q r s') pl (by omega) (by omega) (by rw [be, <-hl];exact h1) (by simpa using ew) ⟨rfl,fin⟩) hs
theorem Ei (its:List Value) (n j:Nat) (u:Value):Obj.mapSeq (·.setIfInBounds j u) {cls:= .type "list",data:= .seq its.toArray n}={cls:= .type "list",data:= .seq (its.set j u).toArray n}:=by
 simp [Obj.mapSeq]
theorem Inv.lst {pins:List (Addr×Obj)} {σ:St} {H:Hp} {s:afU} {p:Addr} {xs:List V} (I:Inv X pins σ H s) (h:H p=some (.lst xs)):
  ∃(its:List Value) (n:Nat),Vals xs its/\s.heap.get? p=some {cls:= .type "list",data:= .seq its.toArray n}/\xs.length<=sizeLine:=by
 obtain ⟨z,its,n,r,e⟩:=I.cN p _ h;exact ⟨its,n,r,e,z⟩
theorem Inv.Rz {pins:List (Addr×Obj)} {σ:St} {H:Hp} {s:afU} {p:Addr} {xs ys:List V} {its its':List Value} {n n':Nat} {f:Obj->Obj} (I:Inv X pins σ H s) (h:H p=some (.lst xs))
  (ho:s.heap.get? p=some {cls:= .type "list",data:= .seq its.toArray n}) (hf:f {cls:= .type "list",data:= .seq its.toArray n}={cls:= .type "list",data:= .seq its'.toArray n'}) (r:Vals ys its') (hz:ys.length<=sizeLine) (t:Nat):
  Inv X pins σ (upd H p (.lst ys)) {s with heap:=s.heap.update p f,toks:=t}:=by
 have e:(s.heap.update p f).get? p=some {cls:= .type "list",data:= .seq its'.toArray n'}:=by
  rw [Heap.get?_update_self f ho (by rw [hf] <;>rfl),hf]
 refine I.write (x:=p) (e:=p) (by rw [h];trivial) (.inl rfl) (λb u hb q=>(Heap.get?_update_other _ _ (fc hb)).trans q) ⟨_,e⟩ ?_;exact ⟨hz,its',n',r,e⟩
inductive MH (o:V) (i:V) (v:V) (H:Hp) (Q:Hp->Prop):Prop
 |mk (p:Addr) (xs:List V) (k:Int) (j:Nat):(o= .ref p)->(i= .int k)->(H p=some (.lst xs))->(Jh xs.length k=some j)->(Q (upd H p (.lst (xs.set j v))))->MH o i v H Q
def UP:V->V->V->Hp->(Hp->Prop)->Prop:=λo i v H Q=>MH o i v H Q
theorem set_list:WO X UP:=by
 intro pins s σ H o i v ov iv u Q I ro ri rv h;obtain ⟨p,xs,k,j,rfl,rfl,hp,hj,q⟩:=h;cases ro;obtain ⟨t,rfl⟩:=ri;obtain ⟨its,n,r,ho,hz⟩:=I.lst hp;obtain ⟨h1,h2,h3,h4⟩:=F0 hj;have hl:=r.length;have hn:=vz;have I':Inv X pins σ (upd H p (.lst (xs.set j v))) {s with heap:=s.heap.update p (Obj.mapSeq (·.setIfInBounds j u))}:=
  I.Rz hp ho (Ei its n j u) (r.set rv j) (by rw [wW];exact hz) s.toks
 by_cases h0:0<=k
 ·have hk:k.toNat=j:=by
   rw [seqIndex_of h0 h4] at h1;exact bx h1
  exact PySem.W.ki_setAt ho h0 (by omega) (by rw [be, <-hl];exact h4) (by rw [hk];exact ⟨_,I',q⟩)
 ·have hk:(k+(its.toArray.size:Int)).toNat=j:=by
   rw [seqIndex_neg (by omega) h3] at h1;rw [be, <-hl];exact bx h1
  exact PySem.W.ki_setBack ho (by omega) (by rw [be, <-hl];exact h3) (by omega) (by rw [hk];exact ⟨_,I',q⟩)
theorem za (lo hi:Option Int) (n:Nat):(agH lo hi none n).1=((HT.zh n 0 lo:Nat):Int)/\(agH lo hi none n).2.1=((HT.zh n n hi:Nat):Int)/\(agH lo hi none n).2.2=1:=by
 refine ⟨?_,?_,rfl⟩
 ·cases lo with
  |none=>simp [agH,HT.zh]
  |some i=>
   simp only [agH,HT.zh,Jm,show (1:Int)>0 by decide,if_true];by_cases h:i<0
   ·simp only [h,if_true] <;>omega
   ·simp only [h,if_false] <;>omega
 ·cases hi with
  |none=>simp [agH,HT.zh]
  |some i=>
   simp only [agH,HT.zh,Jm,show (1:Int)>0 by decide,if_true];by_cases h:i<0
   ·simp only [h,if_true] <;>omega
   ·simp only [h,if_false] <;>omega
theorem w9 (its:List Value) (lo hi:Option Int):slicePick its.toArray lo hi none=((its.drop (HT.zh its.length 0 lo)).take (HT.zh its.length its.length hi-HT.zh its.length 0 lo)).toArray:=by
 obtain ⟨h1,h2,h3⟩:=za lo hi its.toArray.size;unfold slicePick;rw [h1,h2,h3];simp only [sliceRange_one,pick_run,be] <;>rfl
inductive Qz (K:aa) (x:V) (lo:Option Int) (hi:Option Int) (H:Hp) (Q:VK):Prop
 |mk (a:Addr) (xs:List V):(x= .ref a)->(iL K H a xs)->(∀p,H p=none->Q (.ref p) (upd H p (.lst (rY xs lo hi))))->Qz K x lo hi H Q
def UO (K:aa):V->Option Int->Option Int->Hp->VK->Prop:=λx lo hi H Q=>Qz K x lo hi H Q
theorem uc:SlR X (UO X.K):=by
 intro pins s σ H x v vl vu lo hi sl Q I rx hs pl pu h;obtain ⟨a,xs,rfl,hx,q⟩:=h;cases rx;obtain ⟨its,r,ht,hz⟩:=I.list hx;have hlen:=r.length;refine ⟨"list",_,slot_list_getitem.lookup,ht.isList.typeIs,?_⟩;refine wpAny_getItem_list_slice ht.isList hs pl pu .none (by simp) ?_ (by rw [be] <;>omega);rw [w9, <-hlen];refine ⟨.ref s.heap.objs.size,_,I.laid (t':=s.toks) (o:= .lst (rY xs lo hi)) (λb ob q=>Heap.get?_push_of_some _ q) (ay _) ?_,rfl,q _ (I.cN.fresh (ay _))⟩;exact ⟨aV (Co xs lo hi) hz,_,0,(r.drop (HT.zh xs.length 0 lo)).take (HT.zh xs.length xs.length hi-HT.zh xs.length 0 lo),Heap.get?_push_size _ rfl⟩
theorem Ab:jR X (.builtin "len") (λxs H Q=> ∃p ys,xs= [.ref p]/\(iL X.K H p ys∨Ah X.K H p ys)/\Q (.int ys.length) H):=by
 intro pins s σ H xs us Q I r h;obtain ⟨p,ys,rfl,hq,q⟩:=h;obtain ⟨u,rfl,rx⟩:=vals1 r;cases rx;have hn:=vz;rcases hq with hq|hq
 ·obtain ⟨its,r',pl,hz⟩:=I.list hq;have hlen:=r'.length;exact Calls.call_len_list pl.isList (by simp only [be] <;>omega) ⟨.int ys.length,H,I.tok _,⟨s.toks+1,by rw [be,hlen]⟩,q⟩
 ·obtain ⟨its,r',pl,hz⟩:=I.tuple hq;have hlen:=r'.length;exact len_tuple pl (by simp only [be] <;>omega) ⟨.int ys.length,H,I.tok _,⟨s.toks+1,by rw [be,hlen]⟩,q⟩
theorem Aa:jR X (.type "list") (λxs H Q=> ∃p ys,xs= [.ref p]/\(iL X.K H p ys∨Ah X.K H p ys)/\∀l,H l=none->Q (.ref l) (upd H l (.lst ys))):=by
 intro pins s σ H xs us Q I r h;obtain ⟨p,ys,rfl,hq,q⟩:=h;obtain ⟨u,rfl,rx⟩:=vals1 r;cases rx;have fin: ∀(its:List Value),Vals ys its->ys.length<=sizeLine->∀(h':afV) (c':Nat),(∀b o',s.heap.get? b=some o'->h'.get? b=some o')->
   h'.get? s.heap.objs.size=some {cls:= .type "list",dict:=none,data:= .seq its.toArray c',slots:= #[]}->EP X pins σ Q (.ref s.heap.objs.size) {s with heap:=h'}:=λits r' hz h' c' kp e=>
  ⟨.ref s.heap.objs.size,_,I.laid (t':=s.toks) kp (ay _) (show dR X.prog X.w _ h' _ (.lst ys) from ⟨hz,its,c',r',e⟩),rfl,q _ (I.cN.fresh (ay _))⟩
 rcases hq with hq|hq
 ·obtain ⟨its,r',pl,hz⟩:=I.list hq;have hlen:=r'.length;obtain ⟨o,ho,hc,n,hd⟩:=pl.isList;exact call_list_seq p (.inl rfl) ho hc hd (λh' c' kp e=>fin its r' hz h' c' kp e) (by simp only [be] <;>omega)
 ·obtain ⟨its,r',pl,hz⟩:=I.tuple hq;have hlen:=r'.length;obtain ⟨o,ho,hc,n,hd⟩:=pl;exact call_list_seq p (.inr rfl) ho hc hd (λh' c' kp e=>fin its r' hz h' c' kp e) (by simp only [be] <;>omega)
def Yq (K:aa) (T:String) (x:V) (H:Hp):Prop:=match x with
 | .str _=>T= "str"
 | .int _=>T= "int"
 | .ref p=>(T= "list"/\∃xs,iL K H p xs)∨(T= "tuple"/\∃o,K.lookup p=some o/\o.cls= .type "tuple"/\o.dict=none)∨
   (T= "dict"/\((∃kvs,H p=some (.dK kvs))∨∃kvs,H p=some (.dT kvs)))∨(T= "set"/\∃S n,H p=some (.set S n))
 |_=>False
theorem Jz {pins:List (Addr×Obj)} {σ:St} {H:Hp} {s:afU} {T:String} {x:V} {v:Value} (I:Inv X pins σ H s) (r:RelV x v) (ty:Yq X.K T x H):
  s.TypeIs v T/\∀a,v= .ref a->∃ob,s.heap.get? a=some ob/\ob.dict=none:=by
 cases x with
 |str z=>
  obtain ⟨t,rfl⟩:=r;cases (show T= "str" from ty);exact ⟨typeIs_str s z t,λ_ e=>nomatch e⟩
 |int i=>
  obtain ⟨t,rfl⟩:=r;cases (show T= "int" from ty);exact ⟨agX s i t,λ_ e=>nomatch e⟩
 |ref p=>
  cases r;rcases ty with ⟨rfl,xs,hq⟩|⟨rfl,o,hk,hc,hd⟩|⟨rfl,hk⟩|⟨rfl,S,n,hk⟩
  ·obtain ⟨its,_,pl,_⟩:=I.list hq;refine ⟨pl.isList.typeIs,λa e=>?_⟩;cases e;obtain ⟨o,n,e,c,hd,_⟩:=pl;exact ⟨o,e,hd⟩
  ·refine ⟨⟨o,I.FZ p o hk,hc⟩,λa e=>?_⟩;cases e;exact ⟨o,I.FZ _ o hk,hd⟩
  ·have z: ∃o,s.heap.get? p=some o/\o.ExactDict:=by
    rcases hk with ⟨kvs,hk⟩|⟨kvs,hk⟩
    ·obtain ⟨_,_,_,_,o,_,_,e,ex,_⟩:=I.cN p _ hk;exact ⟨o,e,ex⟩
    ·obtain ⟨_,_,_,_,o,_,_,e,ex,_⟩:=I.cN p _ hk;exact ⟨o,e,ex⟩
   obtain ⟨o,e,ex⟩:=z;refine ⟨⟨o,e,ex.1⟩,λa e2=>?_⟩;cases e2;exact ⟨o,e,ex.2.1⟩
  ·obtain ⟨o,_,_,_,e,ex,_⟩:=I.cN p _ hk;refine ⟨⟨o,e,ex.1⟩,λa e2=>?_⟩;cases e2;exact ⟨o,e,ex.2.1⟩
 |_=>exact de ty
def Yy (K:aa) (T:String) (r:V->List V->Hp->VK->Prop) (to:TE):TE:=λσ H Q=>to σ H λx H1=>Yq K T x H1/\r x [] H1 Q
def Yz (K:aa) (T:String) (r:V->List V->Hp->VK->Prop) (to:TE) (t:TA):TE:=λσ H Q=>to σ H λx H1=>Yq K T x H1/\t σ H1 λxs H2=>r x xs H2 Q
variable {o e:af0} {es:List af0} {to:TE} {t:TA} {name:Str} {apos eU:Pos} {T id:String} {r:V->List V->Hp->VK->Prop}
theorem Rg (pa:PlainAttrs T) (slot:Slot T name id) (ZI:typeOf (.builtin id)=pure (.type "method_descriptor")) (hm:MtR X id r) (ho:PE X o to)
  (hbase:agn o name X.env (eval o X.env)=eval o X.env:=by rfl) (hline:(apos.endLine==eU.line)=true:=by rfl):PE X (.Call (.Attribute o name apos) [] [] eU) (Yy X.K T r to):=by
 intro pins s σ H Q I h;refine wpAny_Call_method0_late hbase hline (dD (ho pins s σ H _ I h) λv s1 ⟨x,H1,I1,r1,ty,q1⟩=>?_);obtain ⟨h1,h2⟩:=Jz I1 r1 ty;exact ⟨T,id,pa,slot,ZI,h1,h2,Calls.callWith_builtin rfl (pX (hm pins s1 σ H1 x [] v [] Q I1 r1 .nil q1))⟩
theorem PR (pa:PlainAttrs T) (slot:Slot T name id) (ZI:typeOf (.builtin id)=pure (.type "method_descriptor")) (hm:MtR X id r) (ho:PE X o to) (ha:PA X (e::es) t)
  (hbase:agn o name X.env (eval o X.env)=eval o X.env:=by rfl)
  (hfew:((af9 eU (af1 (e::es) X.env)).all (λx=>!x.1)&&(agx eU (agy [] X.env)).all (λx=>x.1.isSome)
   &&decide ((e::es).length+([]:List agk).length+(if ([]:List agk).isEmpty then 0 else 1)<30))=true:=by rfl)
  (hline:(apos.endLine==eU.line)=true:=by rfl) (hs:af1 (e::es) X.env=(false,eval e X.env)::af1 es X.env:=by rfl) (hplain:(af9 eU (af1 es X.env)).any (·.1)=false:=by rfl):
  PE X (.Call (.Attribute o name apos) (e::es) [] eU) (Yz X.K T r to t):=by
 intro pins s σ H Q I h;refine wpAny_Call_method_late hbase hfew hline rfl (dD (ho pins s σ H _ I h) λv s1 ⟨x,H1,I1,r1,ty,q1⟩=>?_);obtain ⟨h1,h2⟩:=Jz I1 r1 ty;refine ⟨T,id,pa,slot,ZI,h1,h2,?_⟩;have hA:=ha eU pins s1 σ H1 _ I1 q1;rw [hs] at hA⊢;refine Calls.callWith_builtin (by show (false||(af9 eU (af1 es X.env)).any (·.1))=false;rw [hplain] <;>rfl) (Calls.evalArgs_plain ?_);exact dD hA λus s2 ⟨vs,H2,I2,r2,q2⟩=>hm pins s2 σ H2 x vs v us Q I2 r1 r2 q2
end
end L2
namespace L2
open PySem PySem.Spec PyProof.Rows
def MtM (X:Cx) (id:String) (r:V->List V->Hp->VK->Prop):Prop:=
 ∀(pins:List (Addr×Obj)) (s:afU) (σ:St) (H:Hp) (x:V) (xs:List V) (v:Value) (us:List Value) (Q:VK),Inv X pins σ H s->RelV x v->Vals xs us->r x xs H Q->
  wpAny (afY X.prog X.w) X.A (call (.builtin id) (v::us)) (EP X pins σ Q) X.xe s
theorem Vals.one: ∀{x:V} {us:List Value},Vals [x] us->∃u,us= [u]/\RelV x u
 |_,_, .cons r .nil=>⟨_,rfl,r⟩
theorem Vals.zero: ∀{us:List Value},Vals [] us->us= []
 |_, .nil=>rfl
theorem Vals.dropLast {xs:List V} {us:List Value} (h:Vals xs us):Vals xs.dropLast us.dropLast:=by
 induction h with
 |nil=>exact .nil
 |cons r t ih=>
  cases t with
  |nil=>exact .nil
  |cons q t'=>exact .cons r ih
theorem Vals.rep {xs:List V} {us:List Value} (h:Vals xs us): ∀k:Nat,Vals (cQ k xs).flatten (cQ k us).flatten
 |0=> .nil
 |k+1=>by
  rw [gZ,gZ,lF,lF];exact Vals.append h (Vals.rep h k)
theorem EJ {α:Type} (l:List α):l.eraseIdx (l.length-1)=l.dropLast:=by
 induction l with
 |nil=>rfl
 |cons a r ih=>
  cases r with
  |nil=>rfl
  |cons b r=>
   have e:(a::b::r).length-1=((b::r).length-1)+1:=by
    have h1:(a::b::r).length=r.length+2:=rfl;have h2:(b::r).length=r.length+1:=rfl;omega
   rw [e,Dj,ih]
   all_goals rfl
theorem foldl_rep (its:List Value): ∀(k:Nat) (acc:List Value),
  Jo (λx1 x2=>x1++x2) acc.toArray (cQ k its.toArray)=(acc++(cQ k its).flatten).toArray
 |0,acc=>by simp
 |k+1,acc=>by
  have e:acc.toArray++its.toArray=(acc++its).toArray:=by simp
  have e2:(acc++its)++(cQ k its).flatten=acc++(cQ (k+1) its).flatten:=by
   rw [gZ,lF,cp]
  rw [<-e2, <-foldl_rep its k (acc++its), <-e,gZ,oh]
section
variable {X:Cx} {pins:List (Addr×Obj)} {σ:St} {H:Hp} {s:afU} {l b:Addr} {xs ys zs:List V}
theorem Inv.RA {its its':List Value} {n:Nat} {f:Array Value->Array Value} {t':Nat} (I:Inv X pins σ H s) (hH:H l=some (.lst xs))
  (e:s.heap.get? l=some {cls:= .type "list",data:= .seq its.toArray n}) (hf:f its.toArray=its'.toArray) (hv:Vals ys its') (hz:ys.length<=sizeLine):
  Inv X pins σ (upd H l (.lst ys)) {s with heap:=s.heap.update l (Obj.mapSeq f),toks:=t'}:=by
 have q:=PySem.IsL.update e f;rw [hf] at q;refine I.write (x:=l) (e:=l) (by rw [hH];exact trivial) (.inl rfl) (λb' u hb hu=>(Heap.get?_update_other s.heap (Obj.mapSeq f) (fc hb)).trans hu) ⟨_,q⟩ ?_;exact ⟨hz,its',_,hv,q⟩
theorem Inv.Vd {its:List Value} {t':Nat} (I:Inv X pins σ H s) (hv:Vals ys its) (hz:ys.length<=sizeLine):
  Inv X pins σ (upd H s.heap.objs.size (.lst ys)) {s with heap:=s.heap.push {cls:= .type "list",data:= .seq its.toArray},toks:=t'}:=
 I.laid (λ_ _ q=>Heap.get?_push_of_some _ q) (ay _) ⟨hz,its,0,hv,Heap.get?_push_size _ rfl⟩
theorem Inv.fresh (I:Inv X pins σ H s):H s.heap.objs.size=none:=I.cN.fresh (ay _)
theorem Inv.En (I:Inv X pins σ H s) (hH:H l=some (.lst xs)):xs.length<=sizeLine/\∃(its:List Value) (n:Nat),Vals xs its/\xs.length=its.length/\s.heap.get? l=some {cls:= .type "list",data:= .seq its.toArray n}:=by
 obtain ⟨z,its,n,r,e⟩:=I.cN l _ hH;exact ⟨z,its,n,r,r.length,e⟩
theorem BB {n:Nat} (h:n<=sizeLine):Builtin.List.listTooLong n=false:=by
 unfold Builtin.List.listTooLong;exact decide_eq_false (by omega)
end
section
variable {X:Cx}
inductive CZ (x:V) (vs:List V) (H:Hp) (Q:VK):Prop
 |mk (l:Addr) (xs:List V) (y:V):(x= .ref l)->(vs= [y])->(H l=some (.lst xs))->(xs.length<sizeLine)->(Q .fE (upd H l (.lst (xs++ [y]))))->CZ x vs H Q
def FA:V->List V->Hp->VK->Prop:=λx vs H Q=>CZ x vs H Q
theorem HJ:MtM X "list.append" FA:=by
 intro pins s σ H x vs v us Q I rx rv h;obtain ⟨l,xs,y,rfl,rfl,hH,hz,q⟩:=h;cases rx;obtain ⟨u,rfl,ru⟩:=rv.one;obtain ⟨z,its,n,r,hl,e⟩:=I.En hH;refine agY F.slot_list_append ⟨_,e,rfl⟩ F.entry_list_append (F.args_list_append_2 _ _) (PySem.list_append l its.toArray n u (by rw [be];omega)) ⟨e,?_⟩;refine ⟨.fE,_,I.RA (its':=its++ [u]) hH e (by simp) (r.append (.cons ru .nil)) ?_,rfl,q⟩;rw [aK,gd];omega
inductive CY (x:V) (vs:List V) (H:Hp) (Q:VK):Prop
 |mk (l:Addr) (b:Addr) (xs:List V) (zs:List V):(x= .ref l)->(vs= [.ref b])->(H l=some (.lst xs))->(H b=some (.lst zs))->(xs.length+zs.length<=sizeLine)->(Q .fE (upd H l (.lst (xs++zs))))->CY x vs H Q
def Fz:V->List V->Hp->VK->Prop:=λx vs H Q=>CY x vs H Q
theorem HI:MtM X "list.extend" Fz:=by
 intro pins s σ H x vs v us Q I rx rv h;obtain ⟨l,b,xs,zs,rfl,rfl,hH,hB,hz,q⟩:=h;cases rx;obtain ⟨u,rfl,ru⟩:=rv.one;cases ru;obtain ⟨z,its,n,r,hl,e⟩:=I.En hH;obtain ⟨z2,vJ,n2,r2,Dq,e2⟩:=I.En hB;have hsz:its.toArray.size+vJ.toArray.size<=sizeLine:=by rw [be,be];omega
 have K7: ¬(!its.toArray.isEmpty&&Builtin.List.listTooLong (its.toArray.size+vJ.toArray.size))=true:=by
  rw [BB hsz,fw];exact aI
 refine agY F.slot_list_extend ⟨_,e,rfl⟩ F.entry_list_extend (F.args_list_extend_2 _ _)
  (AutoSeq1.list_extend_list_list_0 l its.toArray n b vJ.toArray n2 K7 (by rw [be];omega) (by omega)) ⟨e,e2,?_⟩
 refine ⟨.fE,_,I.RA (its':=its++vJ) hH e (by simp) (r.append r2) ?_,rfl,q⟩;rw [aK];omega
inductive QA (x:V) (vs:List V) (H:Hp) (Q:VK):Prop
 |mk (l:Addr) (xs:List V) (y:V):(x= .ref l)->(vs= [])->(H l=some (.lst xs))->(xs[xs.length-1]?=some y)->(Q y (upd H l (.lst xs.dropLast)))->QA x vs H Q
def YZ:V->List V->Hp->VK->Prop:=λx vs H Q=>QA x vs H Q
theorem Rr:MtM X "list.pop" YZ:=by
 intro pins s σ H x vs v us Q I rx rv h;obtain ⟨l,xs,y,rfl,rfl,hH,hy,q⟩:=h;cases rx;have Dl:=rv.zero;subst Dl;obtain ⟨z,its,n,r,hl,e⟩:=I.En hH;obtain ⟨u,hu,ru⟩:=r.get hy;have KY:its.toArray[its.toArray.size-1]?=some u:=by
  show its.toArray[its.length-1]?=some u;rw [<-gc, <-hl];exact hu
 refine agY F.slot_list_pop ⟨_,e,rfl⟩ F.entry_list_pop (F.args_list_pop_1 _) (MeetsSeq.list_pop_last l its.toArray n u KY (by rw [be];omega)) ⟨e,?_⟩;refine ⟨y,_,I.RA (its':=its.dropLast) hH e ?_ r.dropLast ?_,ru,q⟩
 ·show its.toArray.eraseIdxIfInBounds (its.toArray.size-1)=its.dropLast.toArray;rw [be,List.eraseIdxIfInBounds_toArray,EJ]
 ·rw [List.length_dropLast];omega
def Y0:R2:=λx y H Q=> ∃l b xs zs,x= .ref l/\y= .ref b/\H l=some (.lst xs)/\H b=some (.lst zs)/\xs.length+zs.length<=sizeLine/\∀p,H p=none->Q (.ref p) (upd H p (.lst (xs++zs)))
theorem pJ:sL X (agj .Add) Y0:=by
 intro pins s σ H x y v u Q I rx ry h;obtain ⟨l,b,xs,zs,rfl,rfl,hH,hB,hz,q⟩:=h;cases rx;cases ry;obtain ⟨z,its,n,r,hl,e⟩:=I.En hH;obtain ⟨z2,vJ,n2,r2,Dq,e2⟩:=I.En hB;refine PySem.P.add_list e e2 ?_ (by rw [be,be];omega);have ea:its.toArray++vJ.toArray=(its++vJ).toArray:=by simp
 rw [ea];exact ⟨.ref _,_,I.Vd (t':=s.toks) (r.append r2) (by rw [aK];omega),rfl,q _ I.fresh⟩
def YY:R2:=λx y H Q=> ∃l k xs,x= .ref l/\y= .int k/\H l=some (.lst xs)/\ -(2^63)<=k/\k<2^63/\xs.length*k.toNat<=sizeLine/\
 ∀p,H p=none->Q (.ref p) (upd H p (.lst (cQ k.toNat xs).flatten))
theorem len_rep {α:Type} (xs:List α) (k:Nat):(cQ k xs).flatten.length=k*xs.length:=by
 induction k with
 |zero=>simp
 |succ k ih=>rw [gZ,lF,aK,ih,tS,Nat.add_comm]
theorem Rk:sL X (agj .Mult) YY:=by
 intro pins s σ H x y v u Q I rx ry h;obtain ⟨l,k,xs,rfl,rfl,hH,h1,h2,hz,q⟩:=h;cases rx;obtain ⟨t,rfl⟩:=ry;obtain ⟨z,its,n,r,hl,e⟩:=I.En hH;have hlen:its.toArray.size*k.toNat<=sizeLine:=by rw [be, <-hl];exact hz
 have aal: ¬its.toArray.size*k.toNat>(2^63-1)/8:=by
  have:(sizeLine:Nat)<=(2^63-1)/8:=by decide
  omega
 have V4: ¬(!Builtin.List.listFitsIndex k)=true:=by
  rw [fitsIndex_both h1 h2];exact aI
 have K7: ¬Builtin.List.listTooLong (its.toArray.size*k.toNat)=true:=by
  rw [BB hlen];exact aI
 have ZX:Jo (λx1 x2=>x1++x2) #[] (cQ (if its.toArray.isEmpty=true then 0 else k.toNat) its.toArray)=(cQ k.toNat its).flatten.toArray:=by
  have f0: ∀m:Nat,Jo (λx1 x2=>x1++x2) #[] (cQ m its.toArray)=(cQ m its).flatten.toArray:=λm=>by
   have:=foldl_rep its m [];rw [wV] at this;exact this
  rw [f0];cases its with
  |nil=>simp
  |cons a r'=>rw [if_neg (by simp)]
 refine wpAny_binaryOp_repeat_ref (T:= "list") (U:= "int") (by decide) ⟨_,e,rfl⟩ (λs'=>agX s' k t) noFill_list_mul F.fills_int_mul F.slot_int_rmul repeat_list F.slot_int_index.lookup
  (agY F.slot_int_rmul (agX s k t) F.entry_int_rmul (F.args_int_rmul_2 _ _) (int___rmul___int_list k t l its.toArray n)
   ⟨e,rfl,⟨_,e,rfl⟩,agY F.slot_list_mul ⟨_,e,rfl⟩ F.entry_list_mul (F.args_list_mul_2 _ _) (AutoListH.list___mul___list_int_3 l its.toArray n k t V4 aal K7) ⟨e,?_⟩⟩)
 rw [ZX];exact ⟨.ref _,_,I.Vd (t':=s.toks) (r.rep k.toNat) (by rw [len_rep,Nat.mul_comm];exact hz),rfl,q _ I.fresh⟩
end
end L2
namespace L2
open PySem PySem.Spec PyProof.Rows
theorem Vals.ints: ∀{ns:List Int} {us:List Value},Vals (ns.map V.int) us->IntsAre us ns
 | [],us,h=>by
  rw [gK] at h;cases h;exact IntsAre.nil
 |n::ns,us,h=>by
  rw [bb] at h;cases h with
  |cons r t=>
   obtain ⟨k,rfl⟩:=r;exact IntsAre.cons n k (Vals.ints t)
theorem qg: ∀{us:List Value} {ns:List Int},IntsAre us ns->Vals (ns.map V.int) us
 |_,_, .nil=>by rw [gK];exact Paired.nil
 |_,_, .cons n t h=>by rw [bb];exact Paired.cons (show RelV (V.int n) (Value.int n t) from ⟨t,rfl⟩) (qg h)
theorem Vals.bls: ∀{bs:List Bool} {us:List Value},Vals (bs.map V.bl) us->us=bs.map Value.bool
 | [],us,h=>by
  rw [gK] at h;cases h;rfl
 |b::bs,us,h=>by
  rw [bb] at h;cases h with
  |cons r t=>
   cases r;rw [Vals.bls t,bb]
theorem Vals.zn {a:Addr} {us:List Value} (r:Vals [V.ref a] us):us= [Value.ref a]:=by
 cases r with
 |cons r t=>
  cases t;cases r;rfl
section
variable {prog:afZ} {w:afW} {A:af3} {E:Value->afU->Prop} {s:afU} {l:Addr} {its:List Value} {ns:List Int} {Q:Value->afU->Prop}
theorem NE (hh:A.handled=none) (hl:s.heap.IsList l its.toArray) (hi:IntsAre its ns)
  (h: ∀h' tk t',(∀b o,s.heap.get? b=some o->h'.get? b=some o)->Q (.int ns.sum t') {s with heap:=h',toks:=tk}):wpAny (afY prog w) A (call (.builtin "sum") [.ref l]) Q E s:=by
 obtain ⟨xs,e⟩:=hi.allInts.items;have hn:numsOf (intItems xs).toList=ns:=by rw [<-e];exact hi.numsOf
 rw [nums_intItems] at hn;rw [e] at hl;refine PySem.sum_intListG hh hl λh' tk t' hk=>?_;have:=h h' tk t' hk;rw [preSum_eq,ck (by simp),hn];exact this
end
section
variable {X:Cx}
def YX (K:aa):List V->Hp->VK->Prop:=λvs H Q=> ∃(a:Addr) (ns:List Int),vs= [V.ref a]/\iL K H a (ns.map V.int)/\Q (.int ns.sum) H
theorem zX (hc:X.calm=true):jR X (.builtin "sum") (YX X.K):=by
 intro pins s σ H vs us Q I r h;obtain ⟨a,ns,rfl,hs,q⟩:=h;obtain ⟨its,rv,hl,_⟩:=I.list hs;rw [Vals.zn r];exact NE (I.ok.hd hc) hl.isList rv.ints λh' tk t' hk=>⟨.int _,H,I.kept hk,⟨_,rfl⟩,q⟩
theorem NH {n:Nat} (h:n<64):n<=sizeLine:=by rw [af5];omega
end
theorem KU {prog:afZ} {w:afW} {A:af3} {E:Value->afU->Prop} {s:afU} {l:Addr} {items:Array Value} {Q:Value->afU->Prop} (hl:s.heap.IsList l items)
  (h: ∀kh:afU,kh={s with heap:=s.heap.push {cls:= .type "list_iterator",data:= .fields #[.ref l, .int 0 0]}}->
   (kh.heap.IsListIter s.heap.objs.size l 0/\kh.heap.IsList l items)->l≠s.heap.objs.size->Q (.ref s.heap.objs.size) kh):wpAny (afY prog w) A (pyIter (.ref l)) Q E s:=by
 have i4:l<s.heap.objs.size:=by obtain ⟨_,e,_⟩:=hl;exact Heap.lt_size e
 exact agE hl (h _ rfl ⟨⟨_,Heap.get?_push_size _ rfl,rfl,rfl⟩,hl.push _⟩ (bH i4))
theorem AI {prog:afZ} {w:afW} {A:af3} {bs:List Bool} {its:List Value} (e:its=bs.map Value.bool):
  TruthOf prog w A (λi v=>its.toArray[i]?=some v) (λi=>bs.getD i false):=λi v s Q E hv hq=>by
 have Ti:its[i]?=some v:=by simpa using hv
 rw [e,bp] at Ti;obtain ⟨b,hb,rfl⟩:=AB.mp Ti;have hg:bs.getD i false=b:=by rw [bh,hb] <;>rfl
 have P5:Q (bs.getD i false) s:=hq;rw [hg] at P5;exact agu P5
theorem all_range: ∀bs:List Bool,(bv bs.length).all (λi=>bs.getD i false)=bs.all id
 | []=>rfl
 |b::bs=>by
  rw [aS,List.range_succ_eq_map,gb,mW,gb, <-all_range bs]
  all_goals rfl
section
variable {X:Cx}
def Y1 (K:aa):List V->Hp->VK->Prop:=λvs H Q=> ∃(a:Addr) (bs:List Bool),vs= [V.ref a]/\iL K H a (bs.map V.bl)/\Q (.bl (bs.all id)) H
theorem Mq (hc:X.calm=true):jR X (.builtin "all") (Y1 X.K):=by
 intro pins s σ H vs us Q I r h;obtain ⟨a,bs,rfl,hs,q⟩:=h;obtain ⟨its,rv,hl,_⟩:=I.list hs;rw [Vals.zn r];have hb:=rv.bls;refine call_all_walk (KU hl.isList λkh e2 st fZ=>?_);subst e2;refine ⟨_,_,_,_,_,_,_,rfl,Walks.list (A:=X.A.in1) (I.ok.hd hc) _ a fZ its.toArray,st,AI hb,λh' tk hk=>?_⟩;refine ⟨.bl _,H,I.kept λb o eo=>hk b o (λRU=>?_) (Heap.get?_push_of_some _ eo),?_,q⟩
 ·rcases aB.mp RU with e1|RU
  ·exact absurd (e1▸Heap.lt_size eo) (dO _)
  ·cases RU
 ·show Value.bool _=Value.bool _;rw [<-all_range,hb,be,ab]
end
mutual
inductive Dp (K:aa) (H:Hp):V->ago->Prop
 |fE:Dp K H .fE .none
 |bl (b:Bool):Dp K H (.bl b) (.bool b)
 |int (i:Int):Dp K H (.int i) (.int i)
 |str (x:Str):Dp K H (.str x) (.str x)
 |lst {a:Addr} {xs:List V} {ds:List ago}:iL K H a xs->wB K H xs ds->Dp K H (.ref a) (.list ds)
 |tup {a:Addr} {xs:List V} {ds:List ago}:Ah K H a xs->wB K H xs ds->Dp K H (.ref a) (.tuple ds)
inductive wB (K:aa) (H:Hp):List V->List ago->Prop
 |nil:wB K H [] []
 |cons {v:V} {vs:List V} {d:ago} {ds:List ago}:Dp K H v d->wB K H vs ds->wB K H (v::vs) (d::ds)
end
section
variable {X:Cx} {pins:List (Addr×Obj)} {σ:St} {H:Hp} {s:afU}
mutual
theorem Dp.reads (I:Inv X pins σ H s): ∀(d:ago) (v:V) (u:Value),Dp X.K H v d->RelV v u->∃as,Reads s.heap u d as
 | .none,_,_,h,r=>by
  cases h;cases r;exact ⟨_,Reads.none⟩
 | .bool b,_,_,h,r=>by
  cases h;cases r;exact ⟨_,Reads.bool b⟩
 | .int i,_,_,h,r=>by
  cases h;obtain ⟨t,rfl⟩:=r;exact ⟨_,Reads.int i t⟩
 | .str x,_,_,h,r=>by
  cases h;obtain ⟨t,rfl⟩:=r;exact ⟨_,Reads.str x t⟩
 | .list ds,_,_,h,r=>by
  cases h with
  |lst hs ha=>
   cases r;obtain ⟨its,rv,⟨o,n,ho,hc,_,hd⟩,_⟩:=I.list hs;obtain ⟨as,hr⟩:=Dp.readsAll I ds _ its ha rv;exact ⟨_,Reads.list ho hc hd hr⟩
 | .tuple ds,_,_,h,r=>by
  cases h with
  |tup hs ha=>
   cases r;obtain ⟨its,rv,⟨o,ho,hc,n,hd⟩,_⟩:=I.tuple hs;obtain ⟨as,hr⟩:=Dp.readsAll I ds _ its ha rv;exact ⟨_,Reads.tuple ho hc hd hr⟩
 | .dict _,_,_,h,_=>by cases h
theorem Dp.readsAll (I:Inv X pins σ H s): ∀(ds:List ago) (vs:List V) (us:List Value),wB X.K H vs ds->Vals vs us->∃as,ReadsAll s.heap us ds as
 | [],_,_,h,r=>by
  cases h;cases r;exact ⟨_,ReadsAll.nil⟩
 |d::ds,_,_,h,r=>by
  cases h with
  |cons h1 h2=>
   cases r with
   |cons r1 r2=>
    obtain ⟨as,q1⟩:=Dp.reads I d _ _ h1 r1;obtain ⟨bs,q2⟩:=Dp.readsAll I ds _ _ h2 r2;exact ⟨_,ReadsAll.cons q1 q2⟩
end
end
section
variable {X:Cx}
inductive QD (K:aa) (x:V) (y:V) (H:Hp) (Q:VK):Prop
 |mk (d:ago) (e:ago):(Dp K H x d)->(Dp K H y e)->(SeqAt.shaped d=true)->(SeqAt.shaped e=true)->(Q (.bl (PyData.eqv d e)) H)->QD K x y H Q
def UR (K:aa):R2:=λx y H Q=>QD K x y H Q
theorem Rl (hu:X.A.units+64<af7):sL X (age .Eq) (UR X.K):=by
 intro pins s σ H x y v u Q I rx ry h;obtain ⟨d,e,hd,he,sd,se,q⟩:=h;obtain ⟨as,r1⟩:=Dp.reads I d x v hd rx;obtain ⟨bs,r2⟩:=Dp.reads I e y u he ry;exact SeqAt.compareEq_shaped r1 r2 sd se hu ⟨.bl _,H,I,rfl,q⟩
end
end L2
namespace L2
open PySem PySem.Spec PyProof.Rows
abbrev MN (h:afV) (c:Addr) (v:Option Value):Prop:=h.IsCell c v
def YW (scope sc:af8):af8:=
 {scope with names:=scope.names.map λ(n,k)=>if (k== .free&&sc.kind== .function&&sc.names.lookup n==some .cell) then (n, .cell) else (n,k)}
def dH (cells:List (Str×Addr)):List (Str×agf)->List (Str×Addr)->List (Str×Addr)
 | [],acc=>acc
 |(n,k)::r,acc=>if k== .free then dH cells r ((n,(cells.lookup n).getD 0)::acc) else dH cells r acc
theorem qL (env:Env) (f:Str×agf->List (Str×Addr)->Sem (ForInStep (List (Str×Addr))))
  (hf: ∀n k c,f (n,k) c=if k== .free then (do let a<-cellOf env n;pure (.yield ((n,a)::c))) else pure (.yield c)):
  ∀(names:List (Str×agf)) (acc:List (Str×Addr)),(∀y∈names,y.2= .free->∃c,env.cells.lookup y.1=some c)->forIn names acc f=pure (dH env.cells names acc)
 | [],acc,_=>by rw [QH];rfl
 |(n,k)::r,acc,h=>by
  rw [List.forIn_cons,hf];have ih:=λacc=>qL env f hf r acc λy hy=>h y (aE _ hy);unfold dH;by_cases hk:(k==NameKind.free)=true
  ·rw [if_pos hk,if_pos hk];obtain ⟨c,hc⟩:=h (n,k) aN (by simpa using hk);have e:cellOf env n=pure c:=by unfold cellOf;rw [hc]
   rw [e];have e2:(env.cells.lookup n).getD 0=c:=by rw [hc];rfl
   rw [e2];exact ih _
  ·rw [if_neg hk,if_neg hk];exact ih _
theorem EQ {scope:af8} {env:Env} (h: ∀y∈scope.names,y.2= .free->∃c,env.cells.lookup y.1=some c):closureFor scope env=pure (dH env.cells scope.names []):=by
 simp only [closureFor];rw [qL env _ (λn k c=>rfl) scope.names [] h];rfl
theorem mem_lookup {α:Type}: ∀{l:List (Str×α)} {n:Str} {c:α},(n,c)∈l->∃c',l.lookup n=some c'
 |(k,v)::r,n,c,h=>by
  rw [fu];cases hb:n==k with
  |true=>exact ⟨_,rfl⟩
  |false=>
   rcases aB.mp h with e|h
   ·cases e;simp at hb
   ·exact mem_lookup h
theorem j9 {cells:List (Str×Addr)}: ∀{names:List (Str×agf)} {acc:List (Str×Addr)} {n:Str} {c:Addr},(n,c)∈dH cells names acc->(n,c)∈acc∨((n, .free)∈names/\c=(cells.lookup n).getD 0)
 | [],_,_,_,h=> .inl h
 |(m,k)::r,acc,n,c,h=>by
  unfold dH at h;split at h
  ·rename_i hk
   have hk:k= .free:=by simpa using hk
   rcases j9 h with h|⟨h1,h2⟩
   ·rcases aB.mp h with e|h
    ·cases e;exact .inr ⟨hk▸aN,rfl⟩
    ·exact .inl h
   ·exact .inr ⟨aE _ h1,h2⟩
  ·rcases j9 h with h|⟨h1,h2⟩
   ·exact .inl h
   ·exact .inr ⟨aE _ h1,h2⟩
theorem nH {cells:List (Str×Addr)}: ∀{names:List (Str×agf)} {acc:List (Str×Addr)} {p:Str×Addr},p∈acc->p∈dH cells names acc
 | [],_,_,h=>h
 |(m,k)::r,acc,p,h=>by
  unfold dH;split
  ·exact nH (aE _ h)
  ·exact nH h
theorem nG {cells:List (Str×Addr)}: ∀{names:List (Str×agf)} {acc:List (Str×Addr)} {n:Str},(n, .free)∈names->(n,(cells.lookup n).getD 0)∈dH cells names acc
 |(m,k)::r,acc,n,h=>by
  unfold dH;rcases aB.mp h with e|h
  ·cases e;exact nH aN
  ·split
   ·exact nG h
   ·exact nG h
theorem li: ∀{names:List (Str×agf)} {h:afV} {acc:List (Str×Addr)} {x:Str} {c:Addr},(x,c)∈aga h.objs.size names acc->
  (x,c)∈acc∨((x, .cell)∈names/\h.objs.size<=c/\MN (agz h names) c none)
 | [],_,_,_,_,h=> .inl h
 |(n,k)::r,h,acc,x,c,hm=>by
  unfold aga at hm;unfold agz;split at hm
  ·rename_i hk
   rw [if_pos hk];have hk:k= .cell:=by simpa using hk
   rw [<-Heap.size_push h {cls:= .type "cell",data:= .cell none}] at hm;rcases li hm with hm|⟨h1,h2,h3⟩
   ·rcases aB.mp hm with e|hm
    ·cases e;exact .inr ⟨hk▸aN,ay _,_,aha r _ _ _ (Heap.get?_push_size _ rfl),rfl⟩
    ·exact .inl hm
   ·rw [Heap.size_push] at h2;exact .inr ⟨aE _ h1,lK h2,h3⟩
  ·rename_i hk
   rw [if_neg hk];rcases li hm with hm|⟨h1,h2,h3⟩
   ·exact .inl hm
   ·exact .inr ⟨aE _ h1,h2,h3⟩
theorem oM: ∀{names:List (Str×agf)} {n:Nat} {acc:List (Str×Addr)} {p:Str×Addr},p∈acc->p∈aga n names acc
 | [],_,_,_,h=>h
 |(m,k)::r,n,acc,p,h=>by
  unfold aga;split
  ·exact oM (aE _ h)
  ·exact oM h
theorem r8: ∀{names:List (Str×agf)} {n:Nat} {acc:List (Str×Addr)} {x:Str},(x, .cell)∈names->∃c,(x,c)∈aga n names acc
 |(m,k)::r,n,acc,x,h=>by
  unfold aga;rcases aB.mp h with e|h
  ·cases e;exact ⟨n,oM aN⟩
  ·split
   ·exact r8 h
   ·exact r8 h
theorem r6: ∀{names:List (Str×agf)} {h:afV} {acc:List (Str×Addr)} {x y:Str} {c:Addr},(∀p∈acc,p.2<h.objs.size)->(∀x y c,(x,c)∈acc->(y,c)∈acc->x=y)->
  (x,c)∈aga h.objs.size names acc->(y,c)∈aga h.objs.size names acc->x=y
 | [],_,_,_,_,_,_,hi,h1,h2=>hi _ _ _ h1 h2
 |(n,k)::r,h,acc,x,y,c,hl,hi,h1,h2=>by
  unfold aga at h1 h2;split at h1
  ·rename_i hk
   rw [if_pos hk] at h2;rw [<-Heap.size_push h {cls:= .type "cell",data:= .cell none}] at h1 h2;refine r6 (h:=h.push _) (λp hp=>?_) (λx y c a b=>?_) h1 h2
   ·rw [Heap.size_push];rcases aB.mp hp with rfl|hp
    ·exact fH _
    ·exact lI (hl p hp)
   ·rcases aB.mp a with e|a<;>rcases aB.mp b with e'|b
    ·cases e;cases e';rfl
    ·cases e;exact absurd (hl _ b) (dO _)
    ·cases e';exact absurd (hl _ a) (dO _)
    ·exact hi _ _ _ a b
  ·rename_i hk
   rw [if_neg hk] at h2;exact r6 hl hi h1 h2
theorem BE {M:Model} {A:af3} {E:Value->afU->Prop} {s:afU} {scope:af8} {globals:Addr} {closure:List (Str×Addr)} {qual:Str} {func:Option Addr} {code:Value} {around:Env} {builtins:Addr} {Q:Env->afU->Prop}
  (h:Q (newEnv scope s.heap.objs.size globals (aga (s.heap.objs.size+1) scope.names closure) qual func code (some around) builtins)
   {s with heap:=agz (s.heap.push {cls:= .type "dict",data:= .dict #[]}) scope.names}):
  wpAny M A (newFunctionEnv scope globals closure [] qual func code (some around) builtins) Q E s:=by
 simp only [newFunctionEnv,hU,if_true];refine afX (wpAny_alloc ?_);refine afX (wpAny_layCells _ (λn k c=>rfl) scope.names closure _ _ ?_);rw [show ({s with heap:=s.heap.push {cls:= .type "dict",data:= .dict #[]}}:afU).heap.objs.size=s.heap.objs.size+1 from Heap.size_push ..];rw [QH];exact afX (af2 (af2 h))
theorem nj {sc:af8}: ∀{names:List (Str×agf)} {x:Str} {k:agf},
  (names.map λ(n,k)=>if (k==NameKind.free&&sc.kind== .function&&sc.names.lookup n==some .cell) then (n,NameKind.cell) else (n,k)).lookup x=some k->
  ∃k',names.lookup x=some k'/\(k=k'∨(k'= .free/\k= .cell))
 | [],_,_,h=>by simp at h
 |(n,KO)::r,x,k,h=>by
  have ih:= @nj sc r x k;have h':fO x ((if (KO==NameKind.free&&sc.kind== .function&&sc.names.lookup n==some .cell)=true then (n,NameKind.cell) else (n,KO))::(r.map _))=some k:=h;cases hx:x==n with
  |true=>
   simp only [fu,hx];by_cases hc:(KO==NameKind.free&&sc.kind== .function&&sc.names.lookup n==some .cell)=true
   ·rw [if_pos hc] at h';simp only [fu,hx] at h';cases h';simp only [aU,beq_iff_eq] at hc;exact ⟨KO,rfl, .inr ⟨hc.1.1,rfl⟩⟩
   ·rw [if_neg hc] at h';simp only [fu,hx] at h';cases h';exact ⟨_,rfl, .inl rfl⟩
  |false=>
   simp only [fu,hx];by_cases hc:(KO==NameKind.free&&sc.kind== .function&&sc.names.lookup n==some .cell)=true
   ·rw [if_pos hc] at h';simp only [fu,hx] at h';exact ih h'
   ·rw [if_neg hc] at h';simp only [fu,hx] at h';exact ih h'
structure C9 (N:List Str) (sc scope:af8) (own:List (Str×Nat)):Prop where
 kind:scope.kind= .function
 uniq: ∀y∈scope.names,scope.names.lookup y.1=some y.2
 ix: ∀p∈own,N[p.2]?=some p.1
 free: ∀y∈scope.names,y.2= .free->sc.names.lookup y.1=some .cell∨sc.names.lookup y.1=some .free
 own: ∀y∈scope.names,y.2= .local∨y.2= .cell->y.1∈own.map (·.1)∨y.1∉N
def wipe (σ:St):List Nat->St
 | []=>σ
 |v::vs=>(wipe σ vs).set v none
theorem mY (σ:St): ∀vs:List Nat,(wipe σ vs).length=σ.length
 | []=>rfl
 |v::vs=>by unfold wipe;rw [wW,mY σ vs]
theorem rA {σ:St} {i:Nat} {x:V}: ∀{vs:List Nat},(wipe σ vs)[i]?=some (some x)->σ[i]?=some (some x)/\i∉vs
 | [],h=>⟨h,by simp⟩
 |v::vs,h=>by
  unfold wipe at h;by_cases hi:v=i
  ·subst hi;by_cases hv:v<(wipe σ vs).length
   ·rw [mU hv] at h;cases h
   ·rw [E8 (by simpa using hv)] at h;cases h
  ·rw [o8 hi] at h;obtain ⟨h1,h2⟩:=rA h;exact ⟨h1,by simp only [aB,not_or];exact ⟨λe=>hi e.symm,h2⟩⟩
abbrev Cx.Ad (X:Cx) (s:afU) (H:Hp) (scope:af8) (hW:Env) (fp:List Addr):Cx:={X with xQ:=s,SU:=H,env:=hW,outer:=X.stack,ex:=fp,fn:=λx=>scope.names.lookup x==some .cell,pn:= [],xe:=λ_ _=>False}
section
variable {X:Cx} {pins:List (Addr×Obj)} {σ:St} {H:Hp} {s:afU}
theorem Cr {scope:af8} {own:List (Str×Nat)} {fp:List Addr} (I:Inv X pins σ H s) (ok:C9 X.N X.env.scope scope own) (hN:X.N.Nodup) (M9: ∀b∈fp,tM X pins H b/\b<s.heap.objs.size):
  Inv (X.Ad s H scope (agh scope (aga (s.heap.objs.size+1) scope.names (dH X.env.cells scope.names [])) s.heap.objs.size X.env) fp) [] (wipe σ (own.map (·.2))) H {s with heap:=agz (s.heap.push {cls:= .type "dict",data:= .dict #[]}) scope.names}:=by
 have yi: ∀y∈scope.names,y.2= .free->∃c,X.env.cells.lookup y.1=some c:=λy hy e=>by
  rcases ok.free y hy e with k|k
  ·exact I.ok.has _ (.inl k)
  ·exact I.ok.has _ (.inr k)
 generalize B7:agh scope (aga (s.heap.objs.size+1) scope.names (dH X.env.cells scope.names [])) s.heap.objs.size X.env=hW;have kp: ∀b o,s.heap.get? b=some o->(agz (s.heap.push {cls:= .type "dict",data:= .dict #[]}) scope.names).get? b=some o:=λb o e=>aha _ _ _ _ (Heap.get?_push_of_some _ e);have hL:hW.locals=s.heap.objs.size:=by rw [<-B7];rfl
 have xl:hW.cells=aga (s.heap.objs.size+1) scope.names (dH X.env.cells scope.names []):=by rw [<-B7];rfl
 have ZM:hW.scope=YW scope X.env.scope:=by rw [<-B7];rfl
 rw [<-Heap.size_push s.heap {cls:= .type "dict",data:= .dict #[]}] at xl;have cm: ∀{y c},(y,c)∈dH X.env.cells scope.names []->X.env.cells.lookup y=some c/\c<s.heap.objs.size:=λ{y c} hm=>by
  rcases j9 hm with hm|⟨h1,rfl⟩
  ·cases hm
  ·obtain ⟨c,hc⟩:=yi _ h1 rfl;rw [hc];obtain ⟨w,z⟩:=I.cell _ _ hc;exact ⟨rfl,z.lt⟩
 have mem: ∀{y c},hW.cells.lookup y=some c->(X.env.cells.lookup y=some c/\c<s.heap.objs.size)∨(s.heap.objs.size+1<=c/\MN (agz (s.heap.push {cls:= .type "dict",data:= .dict #[]}) scope.names) c none):=λ{y c} e=>by
  rw [xl] at e;rcases li (bN e) with hm|⟨_,h2,h3⟩
  ·exact .inl (cm hm)
  ·rw [Heap.size_push] at h2;exact .inr ⟨h2,h3⟩
 have look: ∀{y},scope.names.lookup y=some .free->∃c,hW.cells.lookup y=some c/\X.env.cells.lookup y=some c:=λ{y} hl=>by
  have hy:(y,NameKind.free)∈scope.names:=bN hl;obtain ⟨c',e'⟩:=mem_lookup (oM (names:=scope.names) (n:=(s.heap.push {cls:= .type "dict",data:= .dict #[]}).objs.size) (nG (cells:=X.env.cells) (acc:= []) hy));rw [<-xl] at e';refine ⟨c',e',?_⟩;rw [xl] at e';rcases li (bN e') with hm|⟨h1,_,_⟩
  ·exact (cm hm).1
  ·have:=ok.uniq _ h1;rw [hl] at this;cases this
 have okB:(X.Ad s H scope hW fp).Ok:=by
  refine ⟨I.ok.mod,by show hW.scope.kind=_;rw [ZM];exact ok.kind,by show hW.globals=_;rw [<-B7];exact I.ok.glob,by show hW.builtins=_;rw [<-B7];exact I.ok.blt,by show s.heap.objs.size<=hW.locals;rw [hL];exact ay _,
   λy z c e1 e2=>?_,λy hy=>?_,λy c z e=>?_,I.ok.hd,I.ok.frames, .inl rfl,λb hb=>⟨?_,λy c e z=>?_⟩,I.bs,aV I.ok.Pe I.sz,λb o e hb=>?_,λb hb z=>?_,I.stack,I.Fd⟩
  ·have e1:hW.cells.lookup y=some c:=e1;have e2:hW.cells.lookup z=some c:=e2;rw [xl] at e1 e2;refine r6 (λp hp=>?_) (λy z c a b=>I.ok.inj y z c (cm a).1 (cm b).1) (bN e1) (bN e2);rw [Heap.size_push];exact lI (cm (y:=p.1) (c:=p.2) hp).2
  ·show∃c,hW.cells.lookup y=some c;have key: ∀k,hW.kindOf y=some k->(k= .cell∨k= .free)->∃c,hW.cells.lookup y=some c:=λk hk Ie=>by
    unfold Env.kindOf at hk;rw [ZM] at hk;obtain ⟨k',e,r⟩:=nj hk;have:k'= .cell∨k'= .free:=by
     rcases r with rfl|⟨rfl,_⟩
     ·exact Ie
     ·exact .inr rfl
    rcases this with rfl|rfl
    ·obtain ⟨c,hm⟩:=r8 (n:=(s.heap.push {cls:= .type "dict",data:= .dict #[]}).objs.size) (acc:=dH X.env.cells scope.names []) (bN e);obtain ⟨c',e'⟩:=mem_lookup hm;exact ⟨c',by rw [xl];exact e'⟩
    ·obtain ⟨c,h1,_⟩:=look e;exact ⟨c,h1⟩
   rcases hy with hy|hy
   ·exact key _ hy (.inl rfl)
   ·exact key _ hy (.inr rfl)
  ·have z:(scope.names.lookup y==some NameKind.cell)=true:=z;have z:scope.names.lookup y=some .cell:=by simpa using z
   have e:hW.cells.lookup y=some c:=e;rw [xl] at e;rcases li (bN e) with hm|⟨_,h2,_⟩
   ·rcases j9 hm with hm|⟨h1,_⟩
    ·cases hm
    ·have q:=ok.uniq _ h1;rw [z] at q;cases q
   ·rw [Heap.size_push] at h2;exact lK h2
  ·show b≠hW.locals;rw [hL];exact bH (M9 b hb).2
  ·have e:hW.cells.lookup y=some c:=e;rcases mem e with ⟨h1,_⟩|⟨h1,_⟩
   ·exact (M9 b hb).1.2.2.2.2.1 y c h1 z
   ·have h2:s.heap.objs.size+1<=b:=by rw [<-z];exact h1
    exact absurd (bu (M9 b hb).2 (lK h2)) (dO _)
  ·rcases (M9 b hb).1.2.2.2.1 with z|z
   ·exact I.ok.KG b o e z
   ·exact absurd (bu (Heap.lt_size e) (aV I.ok.Pe z)) (dO _)
  ·rcases aB.mp (I.DP b z) with z|z
   ·exact (M9 b hb).1.2.1 z
   ·exact (M9 b hb).1.2.2.1 z
 refine ⟨okB,rfl,I.bare,Un.kept kp,⟨λ_=>none,?_,λi y av e1 e2 e3=>?_⟩,λy c e=>?_,?_,λy c e=>?_,λp hp=>?_,I.cN.kept kp,by rw [mY];exact I.len⟩
 ·show Heap.Ns _ hW.locals _;rw [hL];exact Heap.Ns.keeps (Heap.Ns.new ..) λb o e=>aha _ _ _ _ e
 ·obtain ⟨e2,fZ⟩:=rA e2;have XB:scope.names.lookup y=some .free/\(hW.kindOf y=some .cell∨hW.kindOf y=some .free):=by
   have key: ∀k,hW.scope.names.lookup y=some k->k= .local∨k= .cell∨k= .free->scope.names.lookup y=some .free/\(hW.kindOf y=some .cell∨hW.kindOf y=some .free):=λk hk Ie=>by
    have P6:=hk;rw [ZM] at hk;obtain ⟨k',e,r⟩:=nj hk;have no: ¬(k'= .local∨k'= .cell):=λhh=>by
     rcases ok.own _ (bN e) hh with e'|e'
     ·obtain ⟨p,hp,VC⟩:=aj.mp e';have e3:=ok.ix p hp;have:p.1=y:=VC;rw [this] at e3;exact fZ (aj.mpr ⟨p,hp,vt hN e3 e1⟩)
     ·exact e' (aH e1)
    rcases r with rfl|⟨rfl,rfl⟩
    ·rcases Ie with rfl|rfl|rfl
     ·exact absurd (.inl rfl) no
     ·exact absurd (.inr rfl) no
     ·exact ⟨e, .inr P6⟩
    ·exact ⟨e, .inl P6⟩
   have e3:WK hW.scope y:=e3;rcases e3 with e3|e3|e3
   ·exact key _ e3 (.inl rfl)
   ·exact key _ e3 (.inr (.inl rfl))
   ·exact key _ e3 (.inr (.inr rfl))
  obtain ⟨m,hn,hl⟩:=I.loc;have ZD:WK X.env.scope y:=(ok.free _ (bN XB.1) rfl).elim (λk=> .inr (.inl k)) (λk=> .inr (.inr k));obtain ⟨w,r,q⟩:=hl i y av e1 e2 ZD;refine ⟨w,r, .inr ⟨XB.2,?_⟩⟩;obtain ⟨c,h1,h2⟩:=look XB.1;rcases q with ⟨k,_⟩|⟨_,c',e',z⟩
  ·have k:X.env.scope.names.lookup y=some .local:=k;rcases ok.free _ (bN XB.1) rfl with k'|k'<;>rw [show X.env.scope.names.lookup y=_ from k'] at k<;>cases k
  ·rw [h2] at e';cases e';exact ⟨c,h1,z.keeps kp⟩
 ·have e:hW.cells.lookup y=some c:=e;rcases mem e with ⟨h1,_⟩|⟨_,z⟩
  ·obtain ⟨w,z⟩:=I.cell y c h1;exact ⟨w,z.keeps kp⟩
  ·exact ⟨_,z⟩
 ·show H hW.locals=none;rw [hL];exact I.cN.fresh (ay _)
 ·have e:hW.cells.lookup y=some c:=e;rcases mem e with ⟨h1,_⟩|⟨h1,_⟩
  ·exact I.kZ y c h1
  ·exact I.cN.fresh (lK h1)
 ·exact absurd (show p∈([]:List (Addr×Obj))++ [] from hp) (by simp)
theorem SM {E:Value->afU->Prop} {D:Addr} {xs:List V} {y:V} {v:Value} {Q:Value->afU->Prop} (I:Inv X pins σ H s) (hD:H D=some (.lst xs)) (hz:xs.length<sizeLine) (r:RelV y v)
  (h: ∀s',Inv X pins σ (upd H D (.lst (xs++ [y]))) s'->Q .none s'):wpAny (afY X.prog X.w) X.A (call (.builtin "list.append") [.ref D,v]) Q E s:=by
 obtain ⟨Xn,its,n,ri,e⟩:=I.cN D _ hD;have hl:=ri.length;refine append_at (hsz:=by rw [be];omega) e λh' sb Do=>?_;refine h {s with heap:=h'} (I.write (t':=s.toks) (by rw [hD];trivial) (.inl rfl) (λb u hb q=>(sb.2 b hb).trans q) ⟨_,Do⟩ ⟨by rw [aK];exact hz,its++ [v],n+1,ri.append (.cons r .nil),?_⟩);rw [Do];simp
def WN (X:Cx) (ifs:List af0) (t:TT):Prop:=
 ∀(pins:List (Addr×Obj)) (s:afU) (σ:St) (H:Hp) (Q:Bool->Hp->Prop),Inv X pins σ H s->t σ H Q->
  wpAny (afY X.prog X.w) X.A (forIn ifs true λc r=>if r=true then do let ok<-isTrue c X.env (eval c X.env);pure (lL ok) else pure (lL r)) (TP X pins σ Q) X.xe s
def Ys:TT:=λ_ H Q=>Q true H
theorem eY:WN X [] Ys:=λ_ _ _ H _ I h=>wpAny_tests_nil ⟨H,I,h⟩
theorem ox {c:af0} {t:TT} (h:PT X c t):WN X [c] t:=λpins s σ H Q I hw=>wpAny_tests_one (h pins s σ H Q I hw)
end
theorem G0 {α:Type} {t:Sem α} {Q Q':α->afU->Prop} {M:Model} {A:af3} {E:Value->afU->Prop} {s:afU} (h:wpAny M A t Q (λ_ _=>False) s) (hQ: ∀a s,Q a s->Q' a s):wpAny M A t Q' E s:=wpAny_mono h hQ λ_ _ z=>de z
theorem zY {prog:afZ} {w:afW} {A:af3} {R:Result->afU->Prop} {s:afU} {elt target iter:af0} {ifs:List af0} {scope:af8} {pos:Pos} {it acc:Value} {env:Env} (I:Nat->afU->Prop)
  (turn: ∀n s,I n s->wpAny (afY prog w) A (agm it) (λr dz=>match r with
   |none=>R (.ok .next) dz
   |some v=>wpAny (afY prog w) A (ag5 target it v) (λ_ Px=>wpAny (afY prog w) A (assign target env v) (λ_ kh=>
     wpAny (afY prog w) A (forIn ifs true λc r=>if r=true then do let ok<-isTrue c env (eval c env);pure (lL ok) else pure (lL r)) (λok Ha=>
      if ok=true then wpAny (afY prog w) A (eval elt env) (λx Uq=>
       wpAny (afY prog w) A (call (.builtin "list.append") [acc,x]) (λ_ Up=> ∃m,m<n/\I m Up) (agO (afY prog w) A env λe s'=>R (.error e) s') Uq) (agO (afY prog w) A env λe s'=>R (.error e) s') Ha
      else∃m,m<n/\I m Ha) (agO (afY prog w) A env λe s'=>R (.error e) s') kh) (agO (afY prog w) A env λe s'=>R (.error e) s') Px) (agO (afY prog w) A env λe s'=>R (.error e) s') dz) (agO (afY prog w) A env λe s'=>R (.error e) s') s)
  (n:Nat) (h:I n s):
  codeAny (afY prog w) A (.compLoop (.ListComp elt [⟨target,iter,ifs,0⟩] scope pos) 0 it acc env) R s:=by
 refine codeAny_loop rfl I (λn s hI=>?_) n h;show wpAny _ A ((compTurn (.ListComp elt [⟨target,iter,ifs,0⟩] scope pos) 0 it acc env).onRaise (λx=>do noteFrame x env;theTreesLotGoes x)) _ _ s;refine wpAny_noted ?_;rw [compTurn_list];refine afX (agV (afX (wpAny_mono (turn n s hI) (λr dz pO=>?_) λ_ _ h'=>h')));cases r with
 |none=>exact af2 pO
 |some v=>
  refine afX (wpAny_mono pO (λ_ Px Vo=>?_) λ_ _ h'=>h');refine afX (wpAny_mono Vo (λ_ kh vM=>afX (wpAny_mono vM (λok Ha tG=>?_) λ_ _ h'=>h')) λ_ _ h'=>h');cases ok with
  |false=>exact af2 ⟨rfl,tG⟩
  |true=>
   exact afX (afX (wpAny_mono tG (λx Uq BV=>afX (wpAny_mono BV (λ_ Up HY=>af2 (af2 ⟨rfl,HY⟩)) λ_ _ h'=>h')) λ_ _ h'=>h'))
section
variable {X:Cx}
def Uh (wi:TI) (g:TG) (tt:TT) (te:TE) (vs:List Nat):TE:=λσ H Q=>wi σ H λJ H1=> ∀D,H1 D=none->∃W:Nat->Nat->Hp->Prop,(∃m,W 0 m (upd H1 D (.lst [])))/\∀i m H,W i m H->
 (J.stop i H/\Q (.ref D) H)∨(J.go i H/\∃Nx:Hp->Prop,(∀H',Nx H'->∃m',m'<m/\W (i+1) m' H')/\∀x H',J.Ju i H x H'->g x (wipe σ vs) H' λkJ H2=>wipe kJ vs=wipe σ vs/\tt kJ H2 λb H3=>
  if b=true then te kJ H3 λy H4=> ∃acc,H4 D=some (.lst acc)/\acc.length<sizeLine/\Nx (upd H4 D (.lst (acc++ [y]))) else Nx H3)
theorem FX {pins:List (Addr×Obj)} {s:afU} {σ:St} {H:Hp} {Q:VK} {elt tg iter:af0} {ifs:List af0} {scope:af8} {own:List (Str×Nat)} {pos pos':Pos} {wi:TI} {g:TG} {tt:TT} {te:TE} {use:Option (Value->Sem Unit)} {Qf:Value->afU->Prop}
  (hc:X.calm=true) (hN:X.N.Nodup) (I:Inv X pins σ H s) (hi:PI X tg iter wi) (ok:C9 X.N X.env.scope scope own)
  (hg: ∀(s:afU) (H:Hp) (C:Addr) (cl:List (Str×Addr)) (fp:List Addr),PG (X.Ad s H scope (agh scope cl C X.env) fp) tg g) (ht: ∀(s:afU) (H:Hp) (C:Addr) (cl:List (Str×Addr)) (fp:List Addr),WN (X.Ad s H scope (agh scope cl C X.env) fp) ifs tt)
  (he: ∀(s:afU) (H:Hp) (C:Addr) (cl:List (Str×Addr)) (fp:List Addr),PE (X.Ad s H scope (agh scope cl C X.env) fp) elt te) (hs: ∀x,ag7 iter X.env x=pure x)
  (h:Uh wi g tt te (own.map (·.2)) σ H Q)
  (hRR: ∀D C s' m H',Inv X pins σ H' s'->Q (.ref D) H'->s'.heap.Ns C m->tM X pins H' C->compPost (afY X.prog X.w) X.A X.xe use Qf (.ref D) C (.ok .next) s'):
  wpAny (afY X.prog X.w) X.A (comprehension (.ListComp elt [⟨tg,iter,ifs,0⟩] scope pos) scope X.env pos' (newList []) false (eval iter X.env) use) Qf X.xe s:=by
 have yi: ∀y∈scope.names,y.2= .free->∃c,X.env.cells.lookup y.1=some c:=λy hy e=>by
  rcases ok.free y hy e with k|k
  ·exact I.ok.has _ (.inl k)
  ·exact I.ok.has _ (.inr k)
 refine wpAny_comprehension_free (use:=use) rfl hs (EQ yi) ok.kind (λy hy e=>by rw [ok.uniq y hy,e])
  (dD (hi pins s σ H _ I h) λxv s1 hx=>dD hx λZo s2 h2=>?_)
 obtain ⟨it,fp,tn,J,H2,e,I2,T,Xe,f2,q⟩:=h2;subst e;refine agZ (BE ?_) (by show 0<=sizeLine;decide);generalize hD:s2.heap.objs.size=D;have hDn:H2 D=none:=I2.cN.fresh (tV hD);obtain ⟨W,⟨m0,w0⟩,turn⟩:=q D hDn;generalize hs3:({s2 with heap:=s2.heap.push {cls:= .type "list",data:= .seq ([]:List Value).toArray}}:afU)=s3;have I3:Inv X pins σ (upd H2 D (.lst [])) s3:=by
  rw [<-hs3];refine I2.laid (t':=s2.toks) (λb o e=>Heap.get?_push_of_some _ e) (tV hD) ⟨bw _,[],0, .nil,?_⟩;rw [<-hD];exact Heap.get?_push_size _ rfl
 have h3:s3.heap=s2.heap.push {cls:= .type "list",data:= .seq ([]:List Value).toArray}:=by rw [<-hs3]
 have sz: ∀b∈fp,b<s2.heap.objs.size:=λb hb=>by
  obtain ⟨o,e,_⟩:=T.obj _ _ Xe b hb;exact Heap.lt_size e
 have f3: ∀b∈fp,tM X pins (upd H2 D (.lst [])) b/\b<s3.heap.objs.size:=λb hb=>by
  have i4:=sz b hb;refine ⟨⟨?_,(f2 b hb).2⟩,by rw [h3,Heap.size_push];exact lI i4⟩;rw [bK (by rw [<-hD];exact bH i4)];exact (f2 b hb).1
 have Xd:tn 0 s3.heap:=T.keep _ _ _ Xe λb _ o e=>by rw [h3];exact Heap.get?_push_of_some _ e
 have I4:=Cr I3 ok hN f3;have pg:=hg s3 (upd H2 D (.lst [])) s3.heap.objs.size (aga (s3.heap.objs.size+1) scope.names (dH X.env.cells scope.names [])) fp;have pt:=ht s3 (upd H2 D (.lst [])) s3.heap.objs.size (aga (s3.heap.objs.size+1) scope.names (dH X.env.cells scope.names [])) fp;have pe:=he s3 (upd H2 D (.lst [])) s3.heap.objs.size (aga (s3.heap.objs.size+1) scope.names (dH X.env.cells scope.names [])) fp;show codeAny _ _ (.compStart (.ListComp elt [⟨tg,iter,ifs,0⟩] scope pos) 0 (.ref it) (.ref D) (agh scope (aga (s3.heap.objs.size+1) scope.names (dH X.env.cells scope.names [])) s3.heap.objs.size X.env)) (compPost (afY X.prog X.w) X.A X.xe use Qf (.ref D) s3.heap.objs.size) {s3 with heap:=agz (s3.heap.push {cls:= .type "dict",data:= .dict #[]}) scope.names};have nfp: ∀b∈fp,(upd H2 D (.lst [])) b=none:=λb hb=>(f3 b hb).1.1;generalize hce:agh scope (aga (s3.heap.objs.size+1) scope.names (dH X.env.cells scope.names [])) s3.heap.objs.size X.env=ce at I4 pg pt pe⊢;have cL:ce.locals=s3.heap.objs.size:=by subst hce;rfl
 generalize hH3:upd H2 D (.lst [])=H3 at I3 I4 pg pt pe w0 nfp f3;generalize hs4:({s3 with heap:=agz (s3.heap.push {cls:= .type "dict",data:= .dict #[]}) scope.names}:afU)=s4 at I4⊢;have st4:tn 0 s4.heap:=T.keep _ _ _ Xd λb _ o e=>by rw [<-hs4];exact aha _ _ _ _ (Heap.get?_push_of_some _ e)
 have DQ: ∀{eM:St} {H':Hp} {s':afU},Inv (X.Ad s3 H3 scope ce fp) [] eM H' s'->(∀b∈fp,H' b=none)->∀b∈fp,tM (X.Ad s3 H3 scope ce fp) [] H' b:=λ{eM H' s'} I' hn b hb=>
  ⟨hn b hb,(I'.ok.XR b hb).1,I'.ok.Md b hb, .inl hb,λx c e=>(I'.ok.XR b hb).2 x c e,λp hp=>absurd (show p∈([]:List (Addr×Obj))++ [] from hp) (by simp)⟩
 have loop:codeAny (afY X.prog X.w) X.A (.compLoop (.ListComp elt [⟨tg,iter,ifs,0⟩] scope pos) 0 (.ref it) (.ref D) ce) (compPost (afY X.prog X.w) X.A X.xe use Qf (.ref D) s3.heap.objs.size) s4:=by
  refine zY (λn s'=> ∃i H',Inv (X.Ad s3 H3 scope ce fp) [] (wipe σ (own.map (·.2))) H' s'/\tn i s'.heap/\(∀b∈fp,H' b=none)/\W i n H') ?_ m0 ⟨0,H3,I4,st4,nfp,w0⟩;rintro n s5 ⟨i,H5,I5,S7,n5,w5⟩;rcases turn i n H5 w5 with ⟨stop,qq⟩|⟨go,Nx,hNx,step⟩
  ·have td:=T.done (X.Ad s3 H3 scope ce fp) rfl rfl rfl hc i [] s5 _ H5 (λ_ _=>False) I5 (DQ I5 n5) S7 stop;refine G0 td λr s6 ⟨hr,I6⟩=>?_;subst hr;have I7:Inv X pins σ H5 s6:=I3.WF (ch:=fp) I6.os I6.base I6.cN I6.bare λb hb=>⟨(f3 b hb).1.2.2.2.1,(f3 b hb).1.2.1,(f3 b hb).1.2.2.2.2.1,(f3 b hb).1.2.2.2.2.2⟩
   have nC:H5 s3.heap.objs.size=none:=by
    have z:H5 ce.locals=none:=I6.free;rw [cL] at z;exact z
   obtain ⟨m,hn,_⟩:=I6.loc;have hn:s6.heap.Ns ce.locals m:=hn;rw [cL] at hn;exact hRR D s3.heap.objs.size s6 m H5 I7 qq hn (I3.EF (ay _) nC)
  ·have ti:=T.item (X.Ad s3 H3 scope ce fp) rfl rfl rfl hc i [] s5 _ H5 (λ_ _=>False) I5 (DQ I5 n5) S7 go;refine G0 ti λr s6 ⟨u,hr,h6⟩=>?_;subst hr;refine G0 h6 λ_ s7 ⟨x,H7,I7,r7,y7,YC,n7⟩=>?_;have I7':=I7.pinned (DQ I7 n7) (T.obj _ _ YC);refine G0 (pg _ s7 _ H7 x u _ I7' r7 (step x H7 y7)) λ_ s8 ⟨W8,H8,I8,Xr,q8⟩=>?_;refine G0 (pt _ s8 W8 H8 _ I8 q8) λb s9 ⟨H9,I9,q9⟩=>?_;have fin: ∀{s':afU} {H':Hp},Inv (X.Ad s3 H3 scope ce fp) ([] ++vd fp s7.heap) W8 H' s'->Nx H'->∃m,m<n/\∃i H',Inv (X.Ad s3 H3 scope ce fp) [] (wipe σ (own.map (·.2))) H' s'/\tn i s'.heap/\(∀b∈fp,H' b=none)/\W i m H':=λ{s' H'} I' nx=>by
    obtain ⟨m',hm,w'⟩:=hNx H' nx;have UU: ∀b∈fp, ∀o,s7.heap.get? b=some o->s'.heap.get? b=some o/\H' b=none:=λb hb o e=>
     let z:=I'.pin (b,o) (cH _ (cH _ (pL hb e)))
     ⟨z.1,z.2.1⟩
    have hl:(wipe σ (own.map (·.2))).length=W8.length:=by rw [<-Xr,mY]
    refine ⟨m',hm,i+1,H',(I'.qk (pins:= [])).weak hl (λj v e=>?_),T.keep _ _ _ YC λb hb o e=>(UU b hb o e).1,λb hb=>?_,w'⟩
    ·rw [<-Xr] at e;exact (rA e).1
    ·obtain ⟨o,e,_⟩:=T.obj _ _ YC b hb;exact (UU b hb o e).2
   cases b with
   |false=>
    simp only [bM,if_false] at q9⊢;exact fin I9 q9
   |true=>
    simp only [if_true] at q9⊢;refine G0 (pe _ s9 W8 H9 _ I9 q9) λz s10 ⟨yv,H10,I10,r10,acc,aas,Zt,nx⟩=>?_;exact SM (X:=X.Ad s3 H3 scope ce fp) I10 aas Zt r10 λs11 I11=>fin I11 nx
 exact codeAny_compStart_list loop (T.self X.A 0 _ _ _ st4 loop)
theorem ir {elt tg iter:af0} {ifs:List af0} {scope:af8} {own:List (Str×Nat)} {pos:Pos} {wi:TI} {g:TG} {tt:TT} {te:TE} (hc:X.calm=true) (hN:X.N.Nodup) (hi:PI X tg iter wi) (ok:C9 X.N X.env.scope scope own)
  (hg: ∀(s:afU) (H:Hp) (C:Addr) (cl:List (Str×Addr)) (fp:List Addr),PG (X.Ad s H scope (agh scope cl C X.env) fp) tg g) (ht: ∀(s:afU) (H:Hp) (C:Addr) (cl:List (Str×Addr)) (fp:List Addr),WN (X.Ad s H scope (agh scope cl C X.env) fp) ifs tt)
  (he: ∀(s:afU) (H:Hp) (C:Addr) (cl:List (Str×Addr)) (fp:List Addr),PE (X.Ad s H scope (agh scope cl C X.env) fp) elt te) (hs: ∀x,ag7 iter X.env x=pure x:=by intro _;rfl):
  PE X (.ListComp elt [⟨tg,iter,ifs,0⟩] scope pos) (Uh wi g tt te (own.map (·.2))):=by
 intro pins s σ H Q I h;rw [eval_ListComp];refine FX hc hN I hi ok hg ht he hs h λD C s' m H' I' q hn f=>⟨m,hn,λwL sb=>?_⟩
 obtain ⟨f0,f1,f2,f3,f4,f5⟩:=f;exact ⟨.ref D,H',I'.turned (t':=s'.toks) (λb o hb e=>(sb.2 b hb).trans e) f0 f1 f3 f4 f5,rfl,q⟩
theorem qy {i:Nat} {y:Str} {py:Pos} {elt tg iter:af0} {ifs:List af0} {scope:af8} {own:List (Str×Nat)} {pos Ut:Pos} {wi:TI} {g:TG} {tt:TT} {te:TE} (hc:X.calm=true) (hN:X.N.Nodup) (hy:X.N[i]?=some y) (Ou:X.env.scope.names.lookup y=some .local)
  (hsw:agv (.ListComp elt [⟨tg,iter,ifs,0⟩] scope pos) (some (.Name y py)) Ut.line X.env=pure true) (hi:PI X tg iter wi) (ok:C9 X.N X.env.scope scope own)
  (hg: ∀(s:afU) (H:Hp) (C:Addr) (cl:List (Str×Addr)) (fp:List Addr),PG (X.Ad s H scope (agh scope cl C X.env) fp) tg g) (ht: ∀(s:afU) (H:Hp) (C:Addr) (cl:List (Str×Addr)) (fp:List Addr),WN (X.Ad s H scope (agh scope cl C X.env) fp) ifs tt)
  (he: ∀(s:afU) (H:Hp) (C:Addr) (cl:List (Str×Addr)) (fp:List Addr),PE (X.Ad s H scope (agh scope cl C X.env) fp) elt te) (hs: ∀x,ag7 iter X.env x=pure x:=by intro _;rfl):
  PS X (.Assign [.Name y py] (.ListComp elt [⟨tg,iter,ifs,0⟩] scope pos) Ut) (ND (Uh wi g tt te (own.map (·.2))) (vQ i)):=by
 intro pins s σ H D I h;rw [exec_Assign_Name_used _ _ _ _ hsw];refine afX (agV (afX ?_));show wpAny _ X.A (do let _<-comprehension (.ListComp elt [⟨tg,iter,ifs,0⟩] scope pos) scope X.env (firstIterPos [⟨tg,iter,ifs,0⟩] pos) (newList []) false (eval iter X.env) (some (assign (.Name y py) X.env))) _ _ s;have h:Uh wi g tt te (own.map (·.2)) σ H (λx H1=>vQ i x σ H1 D.nx):=h;refine afX (dD (FX (Qf:=λ_ s'=>SP X pins D .next s') hc hN I hi ok hg ht he hs h λL C s' m H' I' q hn f=>?_) λ_ s' hq=>af2 (af2 hq));show wpAny _ _ (assign (.Name y py) X.env (.ref L)) _ _ _;refine wpAny_assign_Name (xH (v:=V.ref L) I' hN hy (.inl Ou) rfl (λs2 I2 ⟨a,sb,ha⟩=>?_) (.inr Ou));obtain ⟨f0,f1,f2,f3,f4,f5⟩:=f;have haC:C≠a:=by
  rcases ha with z|z
  ·rw [z];exact f1
  ·exact λe=>f4 y a z e.symm
 refine ⟨m,hn.sameBut sb haC,λh3 sb3=>?_⟩;exact ⟨_,H',I2.turned (t':=s2.toks) (λb o hb e=>(sb3.2 b hb).trans e) f0 f1 f3 f4 f5,q⟩
theorem tY {elt:af0} {gs:List Comprehension} {scope:af8} {pos py:Pos} {y:Str} {l:Nat} {env:Env} (hk:env.scope.kind= .function) (hy:env.scope.names.lookup y=some .local) (hl:(py.line==pos.line)=true)
  (ha:(scope.names.any λ(n,k)=>n==y&&(k== .local||k== .cell))=false):agv (.ListComp elt gs scope pos) (some (.Name y py)) l env=pure true:=by
 have ky:env.kindOf y=some .local:=hy;have hb:env.blockKind= .function:=by unfold Env.blockKind;rw [hk];rfl
 unfold agv;simp only [hb,ky,ha,Expr.pos,hl];rfl
end
theorem BP {lo:Int} {n:Nat} {g:TG} {tt:TT} {te:TE} {vs:List Nat} {σ:St} {H1:Hp} {D:Addr} {Qd:Hp->Prop} (Pv:Nat->Hp->Prop) (h0:Pv 0 (upd H1 D (.lst [])))
  (hs:let Iv:=Pv;let Sv:=wipe σ vs;let Tv:=tt;let Ev:=te; ∀i H,i<n->Iv i H->g (.int (lo+i)) Sv H λkJ H2=>wipe kJ vs=Sv/\Tv kJ H2 λb H3=>
   if b=true then Ev kJ H3 λy H4=> ∃acc,H4 D=some (.lst acc)/\acc.length<sizeLine/\Iv (i+1) (upd H4 D (.lst (acc++ [y]))) else Iv (i+1) H3) (hd: ∀H,Pv n H->Qd H):
  ∃W:Nat->Nat->Hp->Prop,(∃m,W 0 m (upd H1 D (.lst [])))/\∀i m H,W i m H->
   ((Ng lo n).stop i H/\Qd H)∨((Ng lo n).go i H/\∃Nx:Hp->Prop,(∀H',Nx H'->∃m',m'<m/\W (i+1) m' H')/\∀x H',(Ng lo n).Ju i H x H'->g x (wipe σ vs) H' λkJ H2=>wipe kJ vs=wipe σ vs/\tt kJ H2 λb H3=>
    if b=true then te kJ H3 λy H4=> ∃acc,H4 D=some (.lst acc)/\acc.length<sizeLine/\Nx (upd H4 D (.lst (acc++ [y]))) else Nx H3):=by
 refine ⟨λi m H=>m=n-i/\i<=n/\Pv i H,⟨n,by simp,bw _,h0⟩,?_⟩;rintro i m H ⟨rfl,hi,p⟩;by_cases i4:i<n
 ·refine .inr ⟨i4,Pv (i+1),λH' p'=>⟨n-(i+1),by omega,rfl,i4,p'⟩,λx H' y=>?_⟩;obtain ⟨e,y⟩:=y;subst e y;exact hs i _ i4 p
 ·have e:i=n:=by omega
  subst e;exact .inl ⟨ay _,hd H p⟩
theorem fG {K:aa} {a:Addr} {xs:List V} {g:TG} {tt:TT} {te:TE} {vs:List Nat} {σ:St} {H1:Hp} {D:Addr} {Qd:Hp->Prop} (Pv:Nat->Hp->Prop) (h0:Pv 0 (upd H1 D (.lst []))) (hl: ∀i H,i<=xs.length->Pv i H->iL K H a xs)
  (hs:let Iv:=Pv;let Sv:=wipe σ vs;let Tv:=tt;let Ev:=te; ∀i x H,xs[i]?=some x->Iv i H->g x Sv H λkJ H2=>wipe kJ vs=Sv/\Tv kJ H2 λb H3=>
   if b=true then Ev kJ H3 λy H4=> ∃acc,H4 D=some (.lst acc)/\acc.length<sizeLine/\Iv (i+1) (upd H4 D (.lst (acc++ [y]))) else Iv (i+1) H3) (hd: ∀H,Pv xs.length H->Qd H):
  ∃W:Nat->Nat->Hp->Prop,(∃m,W 0 m (upd H1 D (.lst [])))/\∀i m H,W i m H->
   ((Qt K a).stop i H/\Qd H)∨((Qt K a).go i H/\∃Nx:Hp->Prop,(∀H',Nx H'->∃m',m'<m/\W (i+1) m' H')/\∀x H',(Qt K a).Ju i H x H'->g x (wipe σ vs) H' λkJ H2=>wipe kJ vs=wipe σ vs/\tt kJ H2 λb H3=>
    if b=true then te kJ H3 λy H4=> ∃acc,H4 D=some (.lst acc)/\acc.length<sizeLine/\Nx (upd H4 D (.lst (acc++ [y]))) else Nx H3):=by
 refine ⟨λi m H=>m=xs.length-i/\i<=xs.length/\Pv i H,⟨xs.length,by simp,bw _,h0⟩,?_⟩;rintro i m H ⟨rfl,hi,p⟩;have q:=hl i H hi p;by_cases i4:i<xs.length
 ·refine .inr ⟨⟨xs,xs[i],q,by simp [i4]⟩,Pv (i+1),λH' p'=>⟨xs.length-(i+1),by omega,rfl,i4,p'⟩,λx H' y=>?_⟩;obtain ⟨e,y⟩:=y;subst e;exact hs i x _ (y xs q) p
 ·have e:i=xs.length:=by omega
  subst e;exact .inl ⟨⟨xs,q,ay _⟩,hd H p⟩
def WH (N:List Str) (sc scope:af8) (own:List (Str×Nat)):Bool:=
 (match scope.kind with| .function=>true|_=>false)&&(scope.names.all λy=>decide (scope.names.lookup y.1=some y.2))&&(own.all λp=>decide (N[p.2]?=some p.1))&&
  (scope.names.all λy=>match y.2 with
   | .free=>(match sc.names.lookup y.1 with|some .cell=>true|some .free=>true|_=>false)
   | .local=>decide (y.1∈own.map (·.1))||decide (y.1∉N)
   | .cell=>decide (y.1∈own.map (·.1))||decide (y.1∉N)
   |_=>true)
theorem cT {N:List Str} {sc scope:af8} {own:List (Str×Nat)} (h:WH N sc scope own=true):C9 N sc scope own:=by
 unfold WH at h;simp only [aU,bP,decide_eq_true_eq] at h;obtain ⟨⟨⟨h1,h2⟩,h3⟩,h4⟩:=h;refine ⟨?_,h2,h3,λy hy e=>?_,λy hy e=>?_⟩
 ·split at h1
  ·assumption
  ·cases h1
 ·have q:=h4 y hy;simp only [e] at q;split at q<;>first|exact .inl (by assumption)|exact .inr (by assumption)|cases q
 ·have q:=h4 y hy;rcases e with e|e<;>(simp only [e,wY,decide_eq_true_eq] at q;exact q)
end L2
namespace L2
open PySem PySem.Spec PyProof.Rows
section
variable {κ:Type} [DecidableEq κ]
def cr (kvs:List (κ×V)) (k:κ):Option V:=(kvs.find? λkv=>decide (kv.1=k)).map (·.2)
def putK (kvs:List (κ×V)) (k:κ) (v:V):List (κ×V):=
 if (kvs.any λkv=>decide (kv.1=k))=true then kvs.map (λkv=>if kv.1=k then (kv.1,v) else kv) else kvs++ [(k,v)]
def gO (kvs:List (κ×V)) (k:κ):List (κ×V):=kvs.filter λkv=>decide (kv.1≠k)
theorem gh {p:κ×V} {r:List (κ×V)} {k:κ} (e:p.1=k):cr (p::r) k=some p.2:=by simp [cr,ia,e]
theorem gj {p:κ×V} {r:List (κ×V)} {k:κ} (e: ¬p.1=k):cr (p::r) k=cr r k:=by simp [cr,ia,e]
theorem fL (k:κ): ∀kvs:List (κ×V),(kvs.any λkv=>decide (kv.1=k))=(cr kvs k).isSome
 | []=>rfl
 |p::r=>by
  rw [AD];by_cases e:p.1=k
  ·simp only [gh e,decide_eq_true e,TW,hU]
  ·rw [gj e,decide_eq_false e,re];exact fL k r
theorem AF (k j:κ) (y:V): ∀kvs:List (κ×V),cr (kvs.map λkv=>if kv.1=k then (kv.1,y) else kv) j=(cr kvs j).map λx=>if j=k then y else x
 | []=>rfl
 |p::r=>by
  have ih:=AF k j y r;rw [bb];by_cases h:p.1=k
  ·rw [if_pos h];by_cases e:p.1=j
   ·rw [gh (p:=(p.1,y)) e,gh e,cY,if_pos (e.symm.trans h)]
   ·rw [gj (p:=(p.1,y)) e,gj e,ih]
  ·rw [if_neg h];by_cases e:p.1=j
   ·rw [gh (p:=p) e,gh e,cY,if_neg (λz=>h (e.trans z))]
   ·rw [gj (p:=p) e,gj e,ih]
theorem xE (k j:κ) (y:V): ∀kvs:List (κ×V),cr kvs k=none->cr (kvs++ [(k,y)]) j=if j=k then some y else cr kvs j
 | [],_=>by
  by_cases e:k=j
  ·rw [if_pos e.symm];exact gh (p:=(k,y)) e
  ·rw [if_neg (λz=>e z.symm)];exact gj (p:=(k,y)) e
 |p::r,hn=>by
  rw [Nk];have hk: ¬p.1=k:=λz=>by rw [gh z] at hn;cases hn
  rw [gj hk] at hn;have ih:=xE k j y r hn;by_cases e:p.1=j
  ·rw [gh e,gh e,if_neg (λz=>hk (e.trans z))]
  ·rw [gj e,gj e,ih]
theorem uA (kvs:List (κ×V)) (k j:κ) (y:V):cr (putK kvs k y) j=if j=k then some y else cr kvs j:=by
 unfold putK;by_cases a:(kvs.any λkv=>decide (kv.1=k))=true
 ·rw [if_pos a,AF];rw [fL] at a;by_cases e:j=k
  ·obtain ⟨x,hx⟩:=yO.mp a;rw [if_pos e,e,hx,cY,if_pos rfl]
  ·rw [if_neg e];cases cr kvs j with
   |none=>rfl
   |some x=>rw [cY,if_neg e]
 ·rw [if_neg a];refine xE k j y kvs ?_;rw [fL] at a;cases q:cr kvs k with
  |none=>rfl
  |some x=>rw [q] at a;exact (a rfl).elim
theorem j7 (kvs:List (κ×V)) (k:κ) (v:V):(putK kvs k v).length<=kvs.length+1:=by
 unfold putK;split
 ·rw [ab];omega
 ·rw [aK,aS,dA];omega
theorem qx {kvs:List (κ×V)} {k:κ} (v:V) (h:cr kvs k=none):putK kvs k v=kvs++ [(k,v)]:=by
 unfold putK;rw [fL,h];exact if_neg (by decide)
theorem jY.jw {o:Option V} {u:Option Value} (r:jY o u):o.isSome=u.isSome:=by
 cases o with
 |none=>cases u with
  |none=>rfl
  |some _=>exact (show False from r).elim
 |some _=>cases u with
  |none=>exact (show False from r).elim
  |some _=>rfl
theorem jY.getD {o:Option V} {u:Option Value} {d:V} {d':Value} (r:jY o u) (rd:RelV d d'):RelV (o.getD d) (u.getD d'):=by
 cases o with
 |none=>cases u with
  |none=>exact rd
  |some _=>exact (show False from r).elim
 |some _=>cases u with
  |none=>exact (show False from r).elim
  |some _=>exact r
theorem KV.val {kvs:List (κ×V)} {vs:List (κ×Value)} (r:KV kvs vs) (k:κ):jY (cr kvs k) (agq vs k):=by
 unfold KV at r;induction r with
 |nil=>exact eZ
 | @cons p q ps qs h t ih=>
  obtain ⟨h1,h2⟩:=h;by_cases e:p.1=k
  ·have e':q.1=k:=h1.symm.trans e;have b:agq (q::qs) k=some q.2:=by simp [agq,ia,e']
   rw [gh e,b];exact h2
  ·have e': ¬q.1=k:=λz=>e (h1.trans z);have b:agq (q::qs) k=agq qs k:=by simp [agq,ia,e']
   rw [gj e,b];exact ih
theorem KV.any {kvs:List (κ×V)} {vs:List (κ×Value)} (r:KV kvs vs) (k:κ):(kvs.any λkv=>decide (kv.1=k))=vs.any λkv=>decide (kv.1=k):=by
 unfold KV at r;induction r with
 |nil=>rfl
 |cons h t ih=>rw [AD,AD,ih,h.1]
theorem KV.Ra {kvs:List (κ×V)} {vs:List (κ×Value)} (r:KV kvs vs) (k:κ) {y:V} {u:Value} (ry:RelV y u):
  KV (kvs.map λkv=>if kv.1=k then (kv.1,y) else kv) (vs.map λkv=>if kv.1=k then (kv.1,u) else kv):=by
 unfold KV at r⊢;induction r with
 |nil=>exact .nil
 | @cons p q ps qs h t ih=>
  rw [bb,bb];refine .cons ?_ ih;obtain ⟨h1,h2⟩:=h;by_cases e:p.1=k
  ·rw [if_pos e,if_pos (h1.symm.trans e)];exact ⟨h1,ry⟩
  ·rw [if_neg e,if_neg (λz=>e (h1.trans z))];exact ⟨h1,h2⟩
theorem KV.put {kvs:List (κ×V)} {vs:List (κ×Value)} (r:KV kvs vs) (k:κ) {y:V} {u:Value} (ry:RelV y u):KV (putK kvs k y) (stored vs k u):=by
 unfold putK stored;rw [r.any k];by_cases e:(vs.any λkv=>decide (kv.1=k))=true
 ·rw [if_pos e,if_pos e];exact r.Ra k ry
 ·rw [if_neg e,if_neg e];exact Paired.snoc r ⟨rfl,ry⟩
theorem KV.drop {kvs:List (κ×V)} {vs:List (κ×Value)} (r:KV kvs vs) (k:κ):KV (gO kvs k) (without vs k):=by
 unfold KV at r⊢;unfold gO without;induction r with
 |nil=>exact .nil
 | @cons p q ps qs h t ih=>
  obtain ⟨h1,h2⟩:=h;rw [br,br];by_cases e:p.1=k
  ·have a: ¬decide (p.1≠k)=true:=by simp [e]
   have b: ¬decide (q.1≠k)=true:=by simp [h1.symm.trans e]
   rw [if_neg a,if_neg b];exact ih
  ·have e': ¬q.1=k:=λz=>e (h1.trans z);have a:decide (p.1≠k)=true:=by simp [e]
   have b:decide (q.1≠k)=true:=by simp [e']
   rw [if_pos a,if_pos b];exact .cons ⟨h1,h2⟩ ih
theorem KV.keys {kvs:List (κ×V)} {vs:List (κ×Value)} (r:KV kvs vs):kvs.map (·.1)=vs.map (·.1):=by
 unfold KV at r;induction r with
 |nil=>rfl
 |cons h t ih=>rw [bb,bb,ih,h.1]
theorem KV.length {kvs:List (κ×V)} {vs:List (κ×Value)} (r:KV kvs vs):kvs.length=vs.length:=Paired.length r
theorem Cj (kvs:List (κ×V)) (k:κ):(gO kvs k).length<=kvs.length:=aO _ _
end
theorem nq {P:afZ} {w:afW} {k:Key} {u:Value} (r:RelV (kV k) u):(cG P w).is k u=true:=by
 cases k with
 |inl i=>obtain ⟨t,e⟩:=(show∃t,u=Value.int i t from r);subst e;exact BG P w i t
 |inr x=>obtain ⟨t,e⟩:=(show∃t,u=Value.str x t from r);subst e;exact BF P w x t
theorem ya {P:afZ} {w:afW}: ∀{ks:List Key} {us:List Value},Vals (ks.map kV) us->ItemsAre (cG P w) ks us
 | [],_,r=>by rw [gK] at r;cases r;exact .nil
 |k::ks,_,r=>by
  rw [bb] at r;cases r with
  |cons h t=>exact .cons (nq h) (ya t)
abbrev KT (H:Hp):List (List Key×V)->List (List Key×Addr×Value)->Prop:=Paired λp q=>p.1=q.1/\H q.2.1=some (.tup (p.1.map kV))/\RelV p.2 q.2.2
theorem KT.val {H:Hp} {kvs:List (List Key×V)} {xs:List (List Key×Addr×Value)} (r:KT H kvs xs) (k:List Key):jY (cr kvs k) ((agi xs k).map (·.2)):=by
 induction r with
 |nil=>exact eZ
 | @cons p q ps qs h t ih=>
  obtain ⟨h1,_,h2⟩:=h;by_cases e:p.1=k
  ·have e':q.1=k:=h1.symm.trans e;have b:agi (q::qs) k=some q.2:=by simp [agi,ia,e']
   rw [gh e,b];exact h2
  ·have e': ¬q.1=k:=λz=>e (h1.trans z);have b:agi (q::qs) k=agi qs k:=by simp [agi,ia,e']
   rw [gj e,b];exact ih
theorem KT.Ra {H:Hp} {kvs:List (List Key×V)} {xs:List (List Key×Addr×Value)} (r:KT H kvs xs) (k:List Key) {y:V} {u:Value} (ry:RelV y u):
  KT H (kvs.map λkv=>if kv.1=k then (kv.1,y) else kv) (xs.map (putAt k u)):=by
 induction r with
 |nil=>exact .nil
 | @cons p q ps qs h t ih=>
  rw [bb,bb];refine .cons ?_ ih;obtain ⟨h1,h2,h3⟩:=h;unfold putAt;by_cases e:p.1=k
  ·rw [if_pos e,if_pos (h1.symm.trans e)];exact ⟨h1,h2,ry⟩
  ·rw [if_neg e,if_neg (λz=>e (h1.trans z))];exact ⟨h1,h2,h3⟩
theorem KT.put {H:Hp} {kvs:List (List Key×V)} {xs:List (List Key×Addr×Value)} (r:KT H kvs xs) (k:List Key) {b:Addr} {y:V} {u:Value} (hb:H b=some (.tup (k.map kV))) (ry:RelV y u):
  KT H (putK kvs k y) (storedH xs k b u):=by
 have e:(kvs.any λkv=>decide (kv.1=k))=(agi xs k).isSome:=by
  rw [fL,(r.val k).jw,rn]
 unfold putK storedH;rw [e];by_cases q:(agi xs k).isSome=true
 ·rw [if_pos q,if_pos q];exact r.Ra k ry
 ·rw [if_neg q,if_neg q];exact Paired.snoc r ⟨rfl,hb,ry⟩
theorem KT.keeps {H H':Hp} {kvs:List (List Key×V)} {xs:List (List Key×Addr×Value)} (r:KT H kvs xs) (ht: ∀b ys,H b=some (.tup ys)->H' b=some (.tup ys)):KT H' kvs xs:=
 Paired.Rv r λ_ _ z=>⟨z.1,ht _ _ z.2.1,z.2.2⟩
section
variable {P:afZ} {w:afW} {H:Hp} {h:afV} {a:Addr}
theorem PM {u:HO} (ok:nT P w H h) (e:Rd H a u):dR P w H h a u:=e.ok ok
theorem nF {kvs:List (Key×V)} (ok:nT P w H h) (e:Rd H a (.dK kvs)):kvs.length<=sizeLine/\(a==agb)=false/\∃vs,KV kvs vs/\h.DictOf (cG P w) a vs:=
 show dR P w H h a (.dK kvs) from PM ok e
theorem Ge {kvs:List (Key×V)} (ok:nT P w H h) (e:H a=some (.dK kvs)):kvs.length<=sizeLine/\(a==agb)=false/\∃vs,KV kvs vs/\h.DictOf (cG P w) a vs:=nF ok (.inl e)
theorem pM {ks:List Key} (ok:nT P w H h) (e:H a=some (.tup (ks.map kV))):(agC (cG P w)).is h ks a:=by
 obtain ⟨_,its,r,o,h1,h2,n,h3⟩:=(show dR P w H h a (.tup (ks.map kV)) from ok a _ e)
 exact ⟨o,its.toArray,n,h1,h2,h3,by simpa using ya r⟩
theorem vY {kvs:List (List Key×V)} (ok:nT P w H h) (e:Rd H a (.dT kvs)):kvs.length<=sizeLine/\(a==agb)=false/\
  ∃xs,KT H kvs xs/\h.DictOfH (agC (cG P w)) a xs:=by
 obtain ⟨z,y,xs,r,o,es,ep,h1,h2,h3,h4,h5⟩:=(show dR P w H h a (.dT kvs) from PM ok e)
 refine ⟨z,y,xs,r,o,es,ep,h1,h2,h3,h4,λx hx=>?_,h5⟩;have all: ∀{l:List (List Key×V)} {m:List (List Key×Addr×Value)},KT H l m->∀x∈m,(agC (cG P w)).is h x.1 x.2.1:=by
  intro l m q;induction q with
  |nil=>intro x hx;exact nomatch hx
  | @cons p q ps qs hq t ih=>
   intro x hx;rcases aB.mp hx with e|hx
   ·subst e;exact pM ok (by rw [<-hq.1];exact hq.2.1)
   ·exact ih x hx
 exact all r x hx
theorem Mm {kvs:List (List Key×V)} (ok:nT P w H h) (e:H a=some (.dT kvs)):kvs.length<=sizeLine/\(a==agb)=false/\
  ∃xs,KT H kvs xs/\h.DictOfH (agC (cG P w)) a xs:=vY ok (.inl e)
end
def j0 (H:Hp) (a:Addr) (y:V) (r:Option V):Prop:=
 (∃kvs k,Rd H a (.dK kvs)/\y=kV k/\r=cr kvs k)∨∃kvs k b,Rd H a (.dT kvs)/\y= .ref b/\H b=some (.tup (k.map kV))/\r=cr kvs k
def nX (H:Hp) (a:Addr) (y v:V) (H':Hp):Prop:=
 (∃kvs k,H a=some (.dK kvs)/\y=kV k/\kvs.length<sizeLine/\H'=upd H a (.dK (putK kvs k v)))∨
 ∃kvs k b,H a=some (.dT kvs)/\y= .ref b/\H b=some (.tup (k.map kV))/\kvs.length<sizeLine/\H'=upd H a (.dT (putK kvs k v))
theorem j0.k {H:Hp} {a:Addr} {kvs:List (Key×V)} {k:Key} (e:H a=some (.dK kvs)):j0 H a (kV k) (cr kvs k):= .inl ⟨kvs,k, .inl e,rfl,rfl⟩
theorem j0.t {H:Hp} {a b:Addr} {kvs:List (List Key×V)} {k:List Key} (e:H a=some (.dT kvs)) (eb:H b=some (.tup (k.map kV))):j0 H a (.ref b) (cr kvs k):= .inr ⟨kvs,k,b, .inl e,rfl,eb,rfl⟩
theorem nX.k {H:Hp} {a:Addr} {kvs:List (Key×V)} {k:Key} {v:V} (e:H a=some (.dK kvs)) (hl:kvs.length<sizeLine):nX H a (kV k) v (upd H a (.dK (putK kvs k v))):= .inl ⟨kvs,k,e,rfl,hl,rfl⟩
theorem nX.t {H:Hp} {a b:Addr} {kvs:List (List Key×V)} {k:List Key} {v:V} (e:H a=some (.dT kvs)) (eb:H b=some (.tup (k.map kV))) (hl:kvs.length<sizeLine):
  nX H a (.ref b) v (upd H a (.dT (putK kvs k v))):= .inr ⟨kvs,k,b,e,rfl,eb,hl,rfl⟩
section
variable {X:Cx} {pins:List (Addr×Obj)} {σ:St} {H:Hp} {s:afU} {a:Addr} {y v:V} {u r:Value} {o:Option V} {A:af3} {E:Value->afU->Prop}
theorem Inv.big (I:Inv X pins σ H s):agb<s.heap.objs.size:=by
 have h:af4<s.heap.objs.size:=(I.mod.glob.keeps I.bk).lt;exact n8 (by decide) h
theorem IK {Q:Value->afU->Prop} (hu:A.units+1<af7) (I:Inv X pins σ H s) (g:j0 H a y (some v)) (ry:RelV y u) (h: ∀w' s',Inv X pins σ H s'->RelV v w'->Q w' s'):
  wpAny (afY X.prog X.w) A (agN (.ref a) u) Q E s:=by
 rcases g with ⟨kvs,k,e,ey,l⟩|⟨kvs,k,b,e,ey,eb,l⟩
 ·subst ey;obtain ⟨z,hd,vs,rel,dd⟩:=nF I.cN e;obtain ⟨w',hw,u4⟩:=jY.some_of (v:=v) (o:=agq vs k) (by rw [l];exact rel.val k);exact wpAny_getItem_of (nq ry) dd.mapOf hw (h w' _ (I.tok _) u4)
 ·subst ey;cases (show u=Value.ref b from ry);obtain ⟨z,hd,xs,rel,dd⟩:=vY I.cN e;obtain ⟨w',hw,u4⟩:=jY.some_of (v:=v) (o:=(agi xs k).map (·.2)) (by rw [l];exact rel.val k);obtain ⟨p,hp,Ib⟩:=AB.mp hw;refine wpAny_getItem_heap (agP hu) (pM I.cN eb) dd hp ?_;rw [Ib];exact h w' _ (I.tok _) u4
theorem aaK {Q:Value->afU->Prop} (hu:A.units+1<af7) (I:Inv X pins σ H s) (g:j0 H a y o) (ry:RelV y u) (h: ∀s',Inv X pins σ H s'->Q (.bool o.isSome) s'):
  wpAny (afY X.prog X.w) A (age .In u (.ref a)) Q E s:=by
 rcases g with ⟨kvs,k,e,ey,l⟩|⟨kvs,k,b,e,ey,eb,l⟩
 ·subst ey;obtain ⟨z,hd,vs,rel,dd⟩:=nF I.cN e;refine wpAny_in_of (nq ry) hd dd.mapOf ?_;rw [<-(rel.val k).jw, <-l];exact h _ (I.tok _)
 ·subst ey;cases (show u=Value.ref b from ry);obtain ⟨z,hd,xs,rel,dd⟩:=vY I.cN e;refine wpAny_in_heap (agP hu) (pM I.cN eb) hd dd ?_;have q:=(rel.val k).jw;rw [rn] at q;rw [<-q, <-l];exact h _ (I.tok _)
theorem O4 {Q:Value->afU->Prop} (hu:A.units+1<af7) (I:Inv X pins σ H s) (g:j0 H a y o) (ry:RelV y u) (h: ∀s',Inv X pins σ H s'->Q (.bool (!o.isSome)) s'):
  wpAny (afY X.prog X.w) A (age .NotIn u (.ref a)) Q E s:=by
 rcases g with ⟨kvs,k,e,ey,l⟩|⟨kvs,k,b,e,ey,eb,l⟩
 ·subst ey;obtain ⟨z,hd,vs,rel,dd⟩:=nF I.cN e;refine wpAny_notIn_of (nq ry) hd dd.mapOf ?_;rw [<-(rel.val k).jw, <-l];exact h _ (I.tok _)
 ·subst ey;cases (show u=Value.ref b from ry);obtain ⟨z,hd,xs,rel,dd⟩:=vY I.cN e;refine wpAny_notIn_heap (agP hu) (pM I.cN eb) hd dd ?_;have q:=(rel.val k).jw;rw [rn] at q;rw [<-q, <-l];exact h _ (I.tok _)
theorem qK {h':afV} {t':Nat} {ob:HO} (I:Inv X pins σ H s) (mu:Qs (H a)) (hs:Heap.SameBut a s.heap h') (he: ∃q,h'.get? a=some q) (new:dR X.prog X.w (upd H a ob) h' a ob):
  Inv X pins σ (upd H a ob) {s with heap:=h',toks:=t'}:=
 I.write (x:=a) (e:=a) mu (.inl rfl) (λb q hb z=>(hs.2 b hb).trans z) he new
theorem EM {P:afZ} {w:afW} {H':Hp} {h':afV} {kvs:List (Key×V)} {vs:List (Key×Value)} (z:kvs.length<=sizeLine) (hd:(a==agb)=false) (rel:KV kvs vs) (dd:h'.DictOf (cG P w) a vs):
  dR P w H' h' a (.dK kvs):=⟨z,hd,vs,rel,dd⟩
theorem IJ {H':Hp} {Q:Unit->afU->Prop} (hu:A.units+1<af7) (I:Inv X pins σ H s) (g:nX H a y v H') (ry:RelV y u) (rv:RelV v r) (h: ∀s',Inv X pins σ H' s'->Q () s'):
  wpAny (afY X.prog X.w) A (setItem (.ref a) u r) Q E s:=by
 rcases g with ⟨kvs,k,e,ey,l,eH⟩|⟨kvs,k,b,e,ey,eb,l,eH⟩
 ·subst ey eH;obtain ⟨z,hd,vs,rel,dd⟩:=Ge I.cN e;have hz:vs.length<=sizeLine:=by rw [<-rel.length];exact z
  have hl:(putK kvs k v).length<=sizeLine:=by have:=j7 kvs k v;omega
  refine wpAny_setItem_pairs (hsz:=hz) (nq ry) dd λh' Jk hs=>h _ ?_;have he: ∃q,h'.get? a=some q:=let ⟨q,_,_,hq,_⟩:=Jk;⟨q,hq⟩
  exact qK I (by rw [e];exact eZ) hs he (EM hl hd (rel.put k rv) Jk)
 ·subst ey eH;cases (show u=Value.ref b from ry);obtain ⟨z,hd,xs,rel,dd⟩:=Mm I.cN e;have hz:xs.length<=sizeLine:=by rw [<-Paired.length rel];exact z
  have hl:(putK kvs k v).length<=sizeLine:=by have:=j7 kvs k v;omega
  refine wpAny_setItem_heap (hsz:=hz) (agP hu) (pM I.cN eb) dd λh' Jk hs=>h _ ?_;obtain ⟨q,es,ep,hq,h2,h3,h4,_,h5⟩:=Jk;refine qK I (by rw [e];exact eZ) hs ⟨q,hq⟩ ⟨hl,hd,_,(rel.put k eb rv).keeps λc ys ec=>?_,q,es,ep,hq,h2,h3,h4,h5⟩;rw [bK (qB ec e (λz=>nomatch z))];exact ec
end
section
variable {X:Cx} {pins:List (Addr×Obj)} {σ:St} {H:Hp} {s:afU} {a:Addr} {kvs:List (Key×V)} {k:Key} {u:Value} {A:af3} {E:Value->afU->Prop}
theorem Qo {v:V} {more:List Value} {Q:Value->afU->Prop} (I:Inv X pins σ H s) (e:H a=some (.dK kvs)) (ry:RelV (kV k) u) (l:cr kvs k=some v) (hm:more= []∨∃x,more= [x])
  (h: ∀w' s',Inv X pins σ (upd H a (.dK (gO kvs k))) s'->RelV v w'->Q w' s'):wpAny (afY X.prog X.w) A (call (.builtin "dict.pop") (.ref a::u::more)) Q E s:=by
 obtain ⟨z,hd,vs,rel,dd⟩:=Ge I.cN e;obtain ⟨w',hw,u4⟩:=jY.some_of (v:=v) (o:=agq vs k) (by rw [<-l];exact rel.val k);have hp:(keyPart u).isSome=true:=by
  cases k with
  |inl i=>obtain ⟨t,q⟩:=(show∃t,u=Value.int i t from ry);subst q;rfl
  |inr x=>obtain ⟨t,q⟩:=(show∃t,u=Value.str x t from ry);subst q;rfl
 have ha:ags "dict.pop" ⟨.ref a::u::more,[]⟩:=by
  rcases hm with q|⟨x,q⟩
  ·subst q;exact PySem.F.args_dict_pop_2 _ _
  ·subst q;exact lE _ _ _
 refine agQ eG dd.typeIs mi ha (meets_dict_pop_there (cG X.prog X.w) a (nq ry) more hm hp)
  ⟨vs,w',dd,by rw [<-rel.length];exact z,hw,λh' Jk hs=>h w' _ ?_ u4⟩
 have he: ∃q,h'.get? a=some q:=let ⟨q,_,_,hq,_⟩:=Jk;⟨q,hq⟩
 exact qK I (by rw [e];exact eZ) hs he (EM (aV (Cj kvs k) z) hd (rel.drop k) Jk)
theorem SC {r:Value} {Q:Value->afU->Prop} (I:Inv X pins σ H s) (e:H a=some (.dK kvs)) (ry:RelV (kV k) u) (l:cr kvs k=none) (h: ∀s',Inv X pins σ H s'->Q r s'):
  wpAny (afY X.prog X.w) A (call (.builtin "dict.pop") [.ref a,u,r]) Q E s:=by
 obtain ⟨z,hd,vs,rel,dd⟩:=Ge I.cN e;have hn:agq vs k=none:=jY.none_of (by rw [<-l];exact rel.val k);have hp:(keyPart u).isSome=true:=by
  cases k with
  |inl i=>obtain ⟨t,q⟩:=(show∃t,u=Value.int i t from ry);subst q;rfl
  |inr x=>obtain ⟨t,q⟩:=(show∃t,u=Value.str x t from ry);subst q;rfl
 exact agQ eG dd.typeIs mi (lE _ _ _) (meets_dict_pop_default (cG X.prog X.w) a (nq ry) hd hp r) ⟨vs,dd,hn,h _ (I.tok _)⟩
theorem WD {Q:Value->afU->Prop} (I:Inv X pins σ H s) (e:Rd H a (.dK kvs)) (h: ∀t s',Inv X pins σ H s'->Q (.int kvs.length t) s'):wpAny (afY X.prog X.w) A (call (.builtin "len") [.ref a]) Q E s:=by
 obtain ⟨z,hd,vs,rel,dd⟩:=nF I.cN e;refine call_len_dict hd dd (by rw [<-rel.length];rw [af5] at z;omega) ?_;rw [<-rel.length];exact h _ _ (I.tok _)
end
def SS (i:af0):Prop:= ∀ov iv,ag9 i false ov iv=operate [ov,iv] (agN ov iv)
theorem Fc {prog:afZ} {w:afW} {A:af3} {E:Value->afU->Prop} {s:afU} {env:Env} {value slice:af0} {pos:Pos} {T id:String} {Q:Value->afU->Prop}
  (hl:typeLookup (.type T) "__getitem__" =pure (some (.builtin id))) (hs:SS slice)
  (h:wpAny (afY prog w) A (eval value env) (λo dz=>wpAny (afY prog w) A (eval slice env) (λi kh=>kh.TypeIs o T/\wpAny (afY prog w) A (agN o i) Q E kh) E dz) E s):
  wpAny (afY prog w) A (eval (.Subscript value slice pos) env) Q E s:=by
 refine Subscript_ (wpAny_mono h (λo dz pO=>wpAny_mono pO (λi kh vM=>?_) λ_ _ x=>x) λ_ _ x=>x);obtain ⟨hT,vM⟩:=vM;unfold subscriptTail;refine afX ?_;rw [getitemInPython_of_ne hT.not_modules];refine afX (wpAny_specialOf hT hl ?_);have fin:wpAny (afY prog w) A (ag9 slice false o i) (λr Ha=>wpAny (afY prog w) A (letTemporaryGo value o r>>=λ_=>pure r) Q E Ha) E kh:=by
  rw [hs o i];exact wpAny_operating (wpAny_mono vM (λr Ha tG=>afX (wpAny_letTemporaryGo (af2 tG))) λ_ _ x=>x)
 first
  |exact af2 (afX fin)
  |exact afX (af2 (afX fin))
  |exact afX fin
theorem Cn {X:Cx} {pins:List (Addr×Obj)} {σ:St} {H:Hp} {s:afU} {a:Addr} {y:V} {o:Option V} (I:Inv X pins σ H s) (g:j0 H a y o):s.TypeIs (.ref a) "dict" :=by
 rcases g with ⟨kvs,k,e,_,_⟩|⟨kvs,k,b,e,_,_,_⟩
 ·obtain ⟨_,_,vs,_,dd⟩:=nF I.cN e;exact dd.typeIs
 ·obtain ⟨_,_,xs,_,dd⟩:=vY I.cN e;exact dd.typeIs
inductive MA (x:V) (y:V) (H2:Hp) (Q:VK):Prop
 |mk (a:Addr) (v:V):(x= .ref a)->(j0 H2 a y (some v))->(Q v H2)->MA x y H2 Q
def Um (td ty:TE):TE:=λσ H Q=>td σ H λx H1=>ty σ H1 λy H2=>MA x y H2 Q
inductive Qv (x:V) (y:V) (H2:Hp) (Q:VK):Prop
 |mk (a:Addr) (o:Option V):(x= .ref a)->(j0 H2 a y o)->(Q (.bl o.isSome) H2)->Qv x y H2 Q
def Yx (ty td:TE):TE:=λσ H Q=>ty σ H λy H1=>td σ H1 λx H2=>Qv x y H2 Q
inductive CD (x:V) (y:V) (H2:Hp) (Q:VK):Prop
 |mk (a:Addr) (o:Option V):(x= .ref a)->(j0 H2 a y o)->(Q (.bl (!o.isSome)) H2)->CD x y H2 Q
def NC (ty td:TE):TE:=λσ H Q=>ty σ H λy H1=>td σ H1 λx H2=>CD x y H2 Q
def UE (td ty tv:TE):TS:=λD σ H=>tv σ H λv H1=>td σ H1 λx H2=>ty σ H2 λy H3=> ∃a H4,x= .ref a/\nX H3 a y v H4/\D.nx σ H4
section
variable {X:Cx} {o i e value:af0} {pos pos' mK:Pos} {td ty tv:TE}
theorem oy (hu:X.A.units+1<af7) (ho:PE X o td) (hi:PE X i ty) (hs:SS i):PE X (.Subscript o i pos) (Um td ty):=by
 intro pins s σ H Q I h;refine Fc wQ.lookup hs (dD (ho pins s σ H _ I h) λu s1 ⟨x,H1,I1,rx,q1⟩=>dD (hi pins s1 σ H1 _ I1 q1) λiv s2 ⟨y,H2,I2,ry,a,v,ex,g,q2⟩=>?_);subst ex;obtain rfl:u=Value.ref a:=rx;exact ⟨Cn I2 g,IK hu I2 g ry λw' s3 I3 u4=>⟨v,H2,I3,u4,q2⟩⟩
theorem Ri (hu:X.A.units+1<af7) (hi:PE X i ty) (ho:PE X o td):PC X .In i o (Yx ty td):=by
 intro pins s σ H Q I h;refine dD (hi pins s σ H _ I h) λiv s1 ⟨y,H1,I1,ry,q1⟩=>dD (ho pins s1 σ H1 _ I1 q1) λu s2 ⟨x,H2,I2,rx,a,ov,ex,g,q2⟩=>?_;subst ex;obtain rfl:u=Value.ref a:=rx;exact aaK hu I2 g ry λs3 I3=>⟨.bl ov.isSome,H2,I3,rfl,q2⟩
theorem oz (hu:X.A.units+1<af7) (hi:PE X i ty) (ho:PE X o td):PC X .NotIn i o (NC ty td):=by
 intro pins s σ H Q I h;refine dD (hi pins s σ H _ I h) λiv s1 ⟨y,H1,I1,ry,q1⟩=>dD (ho pins s1 σ H1 _ I1 q1) λu s2 ⟨x,H2,I2,rx,a,ov,ex,g,q2⟩=>?_;subst ex;obtain rfl:u=Value.ref a:=rx;exact O4 hu I2 g ry λs3 I3=>⟨.bl (!ov.isSome),H2,I3,rfl,q2⟩
theorem lR (hu:X.A.units+1<af7) (ho:PE X o td) (hi:PE X i ty) (hv:PE X value tv) (hs:agv value (some (.Subscript o i pos')) pos.line X.env=pure false):
  PS X (.Assign [.Subscript o i pos'] value pos) (UE td ty tv):=by
 intro pins s σ H D I h;refine wpAny_Assign_Subscript (dD (hv pins s σ H _ I h) λr s1 ⟨v,H1,I1,rv,q1⟩=>dD (ho pins s1 σ H1 _ I1 q1) λu s2 ⟨x,H2,I2,rx,q2⟩=>dD (hi pins s2 σ H2 _ I2 q2) λiv s3 ⟨y,H3,I3,ry,a,H4,ex,g,q3⟩=>?_) hs;subst ex;obtain rfl:u=Value.ref a:=rx;exact IJ hu I3 g ry rv λs4 I4=>⟨σ,H4,I4,q3⟩
end
theorem Cm {P:afZ} {w:afW} {H:Hp} (h:afV) (hb:agb<h.objs.size):dR P w H (h.push {cls:= .type "dict",data:= .dict #[]}) h.objs.size (.dK []):=
 ⟨bw _,beq_eq_false_iff_ne.mpr (fc (bH hb)),[], .nil,Heap.DictOf.new h⟩
theorem Mn {P:afZ} {w:afW} {H:Hp} (h:afV) (hb:agb<h.objs.size):dR P w H (h.push {cls:= .type "dict",data:= .dict #[]}) h.objs.size (.dT []):=
 ⟨bw _,beq_eq_false_iff_ne.mpr (fc (bH hb)),[], .nil,_, #[],0,Heap.get?_push_size _ rfl,⟨rfl,rfl,rfl⟩,rfl,rfl,eI⟩
def QT:TE:=λ_ H Q=> ∀p,H p=none->Q (.ref p) (upd H p (.dK []))
def QS:TE:=λ_ H Q=> ∀p,H p=none->Q (.ref p) (upd H p (.dT []))
section
variable {X:Cx} {pos:Pos}
theorem vf:PE X (.Dict [] [] pos) QT:=λpins s σ H Q I h=>
 wpAny_Dict_empty ⟨.ref s.heap.objs.size,_,I.laid (a:=s.heap.objs.size) (o:= .dK []) (t':=s.toks) (λ_ _ q=>Heap.get?_push_of_some _ q) (ay _) (Cm s.heap I.big),rfl,h _ (I.cN.fresh (ay _))⟩
theorem Bu:PE X (.Dict [] [] pos) QS:=λpins s σ H Q I h=>
 wpAny_Dict_empty ⟨.ref s.heap.objs.size,_,I.laid (a:=s.heap.objs.size) (o:= .dT []) (t':=s.toks) (λ_ _ q=>Heap.get?_push_of_some _ q) (ay _) (Mn s.heap I.big),rfl,h _ (I.cN.fresh (ay _))⟩
end
def DO:List (TE×TE)->St->Hp->(List (V×V)->Hp->Prop)->Prop
 | [],_,H,Q=>Q [] H
 |(tk,tv)::r,σ,H,Q=>tk σ H λx H1=>tv σ H1 λy H2=>DO r σ H2 λps H3=>Q ((x,y)::ps) H3
abbrev VV:List (V×V)->List (Value×Value)->Prop:=Paired λp q=>RelV p.1 q.1/\RelV p.2 q.2
def X0 (X:Cx) (pos:Pos) (keys:List (Option af0)) (values:List af0) (Nt:List (TE×TE)):Prop:=
 ∀(pins:List (Addr×Obj)) (s:afU) (σ:St) (H:Hp) (Q:List (V×V)->Hp->Prop),Inv X pins σ H s->DO Nt σ H Q->
  wpAny (afY X.prog X.w) X.A (evalPairs (pairTrees keys values X.env pos)) (λvs s'=> ∃ps H',Inv X pins σ H' s'/\VV ps vs/\Q ps H') X.xe s
theorem N3 {X:Cx} {pos:Pos}:X0 X pos [] [] []:=λpins s σ H Q I h=>pairTrees_nil_walk ⟨[],H,I, .nil,h⟩
theorem Kk {X:Cx} {pos:Pos} {k v:af0} {ks:List (Option af0)} {vs:List af0} {tk tv:TE} {Nt:List (TE×TE)} (hk:PE X k tk) (hv:PE X v tv) (hr:X0 X pos ks vs Nt):
  X0 X pos (some k::ks) (v::vs) ((tk,tv)::Nt):=λpins s σ H Q I h=>
 pairTrees_cons_walk (dD (hk pins s σ H _ I h) λu s1 ⟨x,H1,I1,rx,q1⟩=>dD (hv pins s1 σ H1 _ I1 q1) λw2 s2 ⟨y,H2,I2,ry,q2⟩=>
  dD (hr pins s2 σ H2 _ I2 q2) λws s3 ⟨ps,H3,I3,rel,q3⟩=>⟨(x,y)::ps,H3,I3, .cons ⟨rx,ry⟩ rel,q3⟩)
def lU (kvs more:List (Key×V)):List (Key×V):=more.foldl (λacc kv=>putK acc kv.1 kv.2) kvs
theorem KV.merge: ∀{more:List (Key×V)} {rs:List (Key×Value)} {kvs:List (Key×V)} {vs:List (Key×Value)},KV more rs->KV kvs vs->KV (lU kvs more) (merged vs rs):=by
 intro more rs kvs vs r;unfold KV at r;induction r generalizing kvs vs with
 |nil=>intro q;exact q
 | @cons p q ps qs h t ih=>
  intro r0;have e:KV (putK kvs p.1 p.2) (stored vs q.1 q.2):=by
   have:=r0.put p.1 h.2;rw [<-h.1];exact this
  exact ih e
theorem oW: ∀(more kvs:List (Key×V)),(lU kvs more).length<=kvs.length+more.length
 | [],kvs=>by show kvs.length<=kvs.length+0;omega
 |p::r,kvs=>by
  have h1:=oW r (putK kvs p.1 p.2);have h2:=j7 kvs p.1 p.2;show (lU (putK kvs p.1 p.2) r).length<=_;rw [aS];omega
theorem wk {P:afZ} {w:afW}: ∀{kvs:List (Key×V)} {ws:List (Value×Value)},VV (kvs.map λkv=>(kV kv.1,kv.2)) ws->∃rs,Carries (cG P w) ws rs/\KV kvs rs
 | [],_,r=>by rw [gK] at r;cases r;exact ⟨[],eZ, .nil⟩
 |p::kvs,_,r=>by
  rw [bb] at r;cases r with
  | @cons a b as bs h t=>
   obtain ⟨rs,c,q⟩:=wk (P:=P) (w:=w) t;obtain ⟨b1,b2⟩:=b;exact ⟨(p.1,b2)::rs,⟨nq h.1,rfl,c⟩, .cons ⟨rfl,h.2⟩ q⟩
def Ul (Nt:List (TE×TE)):TE:=λσ H Q=> ∀p,H p=none->DO Nt σ (upd H p (.dK [])) λps H2=>H2 p=some (.dK [])/\∃kvs:List (Key×V),ps=kvs.map (λkv=>(kV kv.1,kv.2))/\kvs.length<=15/\Q (.ref p) (upd H2 p (.dK (lU [] kvs)))
theorem N7 {X:Cx} {pos:Pos} {keys:List (Option af0)} {values:List af0} {Nt:List (TE×TE)} (h:X0 X pos keys values Nt) (hall:keys.all (·.isSome)=true) (hl:keys.length=values.length) (h0:keys≠ [])
  (h15:keys.length<=15):PE X (.Dict keys values pos) (Ul Nt):=by
 intro pins s σ H Q I q;have hn:=I.cN.fresh (ay s.heap.objs.size);have I1:=I.laid (a:=s.heap.objs.size) (o:= .dK []) (h':=s.heap.push {cls:= .type "dict",data:= .dict #[]}) (t':=s.toks) (λ_ _ q=>Heap.get?_push_of_some _ q) (ay _) (Cm s.heap I.big);refine wpAny_Dict_walk (knd:=cG X.prog X.w) hall hl h0 h15 (dD (h pins _ σ _ _ I1 (q _ hn)) λws s2 ⟨ps,H2,I2,rel,e,kvs,ep,lk,q2⟩=>?_);subst ep;obtain ⟨rs,c,rk⟩:=wk (P:=X.prog) (w:=X.w) rel;obtain ⟨z,hd,vs0,r0,dd⟩:=Ge I2.cN e;cases r0;refine ⟨rs,c,dd,λh' Jk hs=>⟨.ref s.heap.objs.size,_,?_,rfl,q2⟩⟩;have hz:(lU [] kvs).length<=sizeLine:=by
  have h1:=oW kvs [];rw [dA] at h1;rw [af5];omega
 have he: ∃q,h'.get? s.heap.objs.size=some q:=let ⟨q,_,_,hq,_⟩:=Jk;⟨q,hq⟩
 exact qK I2 (by rw [e];exact eZ) hs he (EM hz hd (rk.merge .nil) Jk)
structure M1 (X:Cx) (o:af0) (m:Str) (apos:Pos) (e:af0) (eU:Pos):Prop where
 base:agn o m X.env (eval o X.env)=eval o X.env
 Wv:((af9 eU (af1 [e] X.env)).all (λx=>!x.1)&&(agx eU (agy [] X.env)).all (λx=>x.1.isSome)
  &&decide (([e]:List af0).length+([]:List agk).length+(if ([]:List agk).isEmpty then 0 else 1)<30))=true
 line:(apos.endLine==eU.line)=true
 trees:af9 eU (af1 [e] X.env)= [(false,eval e X.env)]
structure M2 (X:Cx) (o:af0) (m:Str) (apos:Pos) (e f:af0) (eU:Pos):Prop where
 base:agn o m X.env (eval o X.env)=eval o X.env
 Wv:((af9 eU (af1 [e,f] X.env)).all (λx=>!x.1)&&(agx eU (agy [] X.env)).all (λx=>x.1.isSome)
  &&decide (([e,f]:List af0).length+([]:List agk).length+(if ([]:List agk).isEmpty then 0 else 1)<30))=true
 line:(apos.endLine==eU.line)=true
 trees:af9 eU (af1 [e,f] X.env)= [(false,eval e X.env),(false,eval f X.env)]
def WS (H:Hp) (a:Addr):Prop:=(∃kvs,Rd H a (.dK kvs))∨∃kvs,Rd H a (.dT kvs)
theorem zH {X:Cx} {pins:List (Addr×Obj)} {σ:St} {H:Hp} {s:afU} {a:Addr} (I:Inv X pins σ H s) (d:WS H a):
  s.TypeIs (.ref a) "dict"/\(∀b,Value.ref a= .ref b->∃ob,s.heap.get? b=some ob/\ob.dict=none)/\(a==agb)=false:=by
 rcases d with ⟨kvs,e⟩|⟨kvs,e⟩
 ·obtain ⟨_,hd,vs,_,dd⟩:=nF I.cN e;refine ⟨dd.typeIs,λb q=>?_,hd⟩;cases q;obtain ⟨ob,_,_,h1,h2,_⟩:=dd;exact ⟨ob,h1,h2.2.1⟩
 ·obtain ⟨_,hd,xs,_,dd⟩:=vY I.cN e;refine ⟨dd.typeIs,λb q=>?_,hd⟩;cases q;obtain ⟨ob,_,_,h1,h2,_⟩:=dd;exact ⟨ob,h1,h2.2.1⟩
section
variable {X:Cx} {pins:List (Addr×Obj)} {σ:St} {H:Hp} {s:afU} {a:Addr} {y d:V} {u r:Value} {o:Option V} {A:af3} {E:Value->afU->Prop}
theorem SD {Q:Value->afU->Prop} (hu:A.units+1<af7) (I:Inv X pins σ H s) (g:j0 H a y o) (ry:RelV y u) (rd:RelV d r) (h: ∀w' s',Inv X pins σ H s'->RelV (o.getD d) w'->Q w' s'):
  wpAny (afY X.prog X.w) A (call (.builtin "dict.get") [.ref a,u,r]) Q E s:=by
 rcases g with ⟨kvs,k,e,ey,l⟩|⟨kvs,k,b,e,ey,eb,l⟩
 ·subst ey;obtain ⟨z,hd,vs,rel,dd⟩:=nF I.cN e;refine agQ mO dd.typeIs Aq (yN _ _ _) (meets_dict_get_default (cG X.prog X.w) a (nq ry) hd r) ⟨_,dd.mapOf,h _ _ (I.tok _) ?_⟩;rw [l];exact (rel.val k).getD rd
 ·subst ey;cases (show u=Value.ref b from ry);obtain ⟨z,hd,xs,rel,dd⟩:=vY I.cN e;refine agQ mO dd.typeIs Aq (yN _ _ _) (meetsH_dict_get_default (agC (cG X.prog X.w)) a b hd r) ⟨agP hu,k,xs,pM I.cN eb,dd,h _ _ (I.tok _) ?_⟩;rw [l];exact (rel.val k).getD rd
end
def QU (td ty tx:TE):TE:=λσ H Q=>td σ H λx H1=> ∃a,x= .ref a/\WS H1 a/\ty σ H1 λy H2=>tx σ H2 λz H3=> ∃o,j0 H3 a y o/\Q (o.getD z) H3
def QR (td ty:TE):TE:=λσ H Q=>td σ H λx H1=> ∃a,x= .ref a/\WS H1 a/\ty σ H1 λy H2=> ∃kvs k v,H2 a=some (.dK kvs)/\y=kV k/\cr kvs k=some v/\Q v (upd H2 a (.dK (gO kvs k)))
def QQ (td ty tx:TE):TE:=λσ H Q=>td σ H λx H1=> ∃a,x= .ref a/\WS H1 a/\ty σ H1 λy H2=>tx σ H2 λz H3=> ∃kvs k,H3 a=some (.dK kvs)/\y=kV k/\
 (∀v,cr kvs k=some v->Q v (upd H3 a (.dK (gO kvs k))))/\(cr kvs k=none->Q z H3)
section
variable {X:Cx} {o e f:af0} {apos eU:Pos} {td ty tx:TE}
theorem qA (hu:X.A.units+1<af7) (ho:PE X o td) (he:PE X e ty) (hf:PE X f tx) (m:M2 X o "get" apos e f eU):PE X (.Call (.Attribute o "get" apos) [e,f] [] eU) (QU td ty tx):=by
 intro pins s σ H Q I h;refine agR m.base m.Wv m.line g9 mO PySem.F.type_dict_get (dD (ho pins s σ H _ I h) λu s1 ⟨x,H1,I1,rx,a,ex,d,q1⟩=>?_);subst ex;obtain rfl:u=Value.ref a:=rx;obtain ⟨t1,t2,_⟩:=zH I1 d;refine ⟨t1,t2,?_⟩;rw [m.trees];refine Calls.callWith_builtin rfl (Calls.evalArgs_plain (Calls.spliced_cons (dD (he pins s1 σ H1 _ I1 q1) λiv s2 ⟨y,H2,I2,ry,q2⟩=>
  Calls.spliced_cons (dD (hf pins s2 σ H2 _ I2 q2) λfv s3 ⟨z,H3,I3,rz,ov,g,q3⟩=>Calls.spliced_nil ?_))))
 exact SD hu I3 g ry rz λw' s4 I4 u4=>⟨_,H3,I4,u4,q3⟩
theorem Ku (ho:PE X o td) (he:PE X e ty) (m:M1 X o "pop" apos e eU):PE X (.Call (.Attribute o "pop" apos) [e] [] eU) (QR td ty):=by
 intro pins s σ H Q I h;refine agR m.base m.Wv m.line g9 eG mN (dD (ho pins s σ H _ I h) λu s1 ⟨x,H1,I1,rx,a,ex,d,q1⟩=>?_);subst ex;obtain rfl:u=Value.ref a:=rx;obtain ⟨t1,t2,_⟩:=zH I1 d;refine ⟨t1,t2,?_⟩;rw [m.trees];refine Calls.callWith_builtin rfl (Calls.evalArgs_plain (Calls.spliced_cons (dD (he pins s1 σ H1 _ I1 q1) λiv s2 ⟨y,H2,I2,ry,kvs,k,v,ea,ey,l,q2⟩=>Calls.spliced_nil ?_)));subst ey;exact Qo I2 ea ry l (.inl rfl) λw' s3 I3 u4=>⟨v,_,I3,u4,q2⟩
theorem Kt (ho:PE X o td) (he:PE X e ty) (hf:PE X f tx) (m:M2 X o "pop" apos e f eU):PE X (.Call (.Attribute o "pop" apos) [e,f] [] eU) (QQ td ty tx):=by
 intro pins s σ H Q I h;refine agR m.base m.Wv m.line g9 eG mN (dD (ho pins s σ H _ I h) λu s1 ⟨x,H1,I1,rx,a,ex,d,q1⟩=>?_);subst ex;obtain rfl:u=Value.ref a:=rx;obtain ⟨t1,t2,_⟩:=zH I1 d;refine ⟨t1,t2,?_⟩;rw [m.trees];refine Calls.callWith_builtin rfl (Calls.evalArgs_plain (Calls.spliced_cons (dD (he pins s1 σ H1 _ I1 q1) λiv s2 ⟨y,H2,I2,ry,q2⟩=>
  Calls.spliced_cons (dD (hf pins s2 σ H2 _ I2 q2) λfv s3 ⟨z,H3,I3,rz,kvs,k,ea,ey,q3,q4⟩=>Calls.spliced_nil ?_))))
 subst ey;cases l:cr kvs k with
 |some v=>exact Qo I3 ea ry l (.inr ⟨fv,rfl⟩) λw' s4 I4 u4=>⟨v,_,I4,u4,q3 v l⟩
 |none=>exact SC I3 ea ry l λs4 I4=>⟨z,H3,I4,rz,q4 l⟩
end
end L2
namespace L2
open PySem PySem.Spec PyProof.Rows
section
variable {X:Cx} {pins:List (Addr×Obj)} {σ:St} {H:Hp} {s:afU} {h':afV}
theorem Inv.Nr {t':Nat} {ch:List Addr} (I:Inv X pins σ H s) (k: ∀b o,b∉ch->s.heap.get? b=some o->h'.get? b=some o) (hf: ∀b∈ch,tM X pins H b):Inv X pins σ H {s with heap:=h',toks:=t'}:=by
 have PV: ∀b u,H b=some u->b∉ch:=λb u e z=>by
  have q:=(hf b z).1;rw [q] at e;cases e
 refine I.step (g':=s.gens) (d':=s.drawn) (ch:=ch) (λb hb=>⟨(hf b hb).2.2.2.1,(hf b hb).2.1,(hf b hb).2.2.2.2.1,(hf b hb).2.2.2.2.2⟩) (λb o _ _ hc e _=>k b o hc e) (λb o _ _ hc e _=>⟨o.slots,k b o hc e⟩)
  (λ_ _ _ _ n=>n) (λb o hc e=>⟨o,k b o hc e⟩) (λ_ _ e=>e) (λ_ _ _ e=>e) (λb ps e=>⟨#[],by rw [e];simp⟩) (λm hm=>?_) (λb u e=>?_) I.bare
 ·obtain ⟨o,es,ep,ho,r⟩:=hm;exact ⟨o,es,ep,k _ o (λz=>(hf _ z).2.1 rfl) ho,r⟩
 ·refine (I.cN b u e).fS (λc v hc q=>k c v ?_ q) (λ_ q=>q) λ_ _ q=>q;rcases hc with z|z
  ·rw [z];exact PV b u e
  ·exact PV c _ z
theorem Inv.om {t':Nat} {ch:List Addr} {T:Addr} {ob:HO} (I:Inv X pins σ H s) (k: ∀b o,b∉ch->s.heap.get? b=some o->h'.get? b=some o) (hf: ∀b∈ch,tM X pins H b) (hT:s.heap.objs.size<=T)
  (new:dR X.prog X.w (upd H T ob) h' T ob):Inv X pins σ (upd H T ob) {s with heap:=h',toks:=t'}:=by
 have hn:H T=none:=I.cN.fresh hT;have PV: ∀b u,H b=some u->b∉ch:=λb u e z=>by
  have q:=(hf b z).1;rw [q] at e;cases e
 refine I.step (g':=s.gens) (d':=s.drawn) (ch:=ch) (λb hb=>⟨(hf b hb).2.2.2.1,(hf b hb).2.1,(hf b hb).2.2.2.2.1,(hf b hb).2.2.2.2.2⟩) (λb o _ _ hc e _=>k b o hc e) (λb o _ _ hc e _=>⟨o.slots,k b o hc e⟩)
  (λb o _ e n=>?_) (λb o hc e=>⟨o,k b o hc e⟩) (λb xs e=>?_) (λb o u e=>?_) (λb ps e=>⟨#[],?_⟩) (λm hm=>?_) (λb u e=>?_) I.bare
 ·rw [bK (bH (bu (Heap.lt_size e) hT))];exact n
 ·rw [bK (aG e hn)];exact e
 ·rw [bK (aG e hn)];exact e
 ·rw [bK (aG e hn),e];simp
 ·obtain ⟨o,es,ep,ho,r⟩:=hm;exact ⟨o,es,ep,k _ o (λz=>(hf _ z).2.1 rfl) ho,r⟩
 ·by_cases hb:b=T
  ·subst hb;rw [ak] at e;cases e;exact new
  ·rw [bK hb] at e;refine (I.cN b u e).fS (λc v hc q=>k c v ?_ q) (λc q=>by rw [bK (aG q hn)];exact q) λc xs q=>by rw [bK (aG q hn)];exact q
   rcases hc with z|z
   ·rw [z];exact PV b u e
   ·exact PV c _ z
theorem Inv.lock {d:Addr} {u:HO} (I:Inv X pins σ H s) (h:H d=some u) (mu:Qs (some u)): ∃od,Inv X pins σ (upd H d (.kY od u)) s:=by
 have x:=I.cN d u h;have ex: ∃od,s.heap.get? d=some od:=by
  cases u with
  |lst xs=>obtain ⟨_,_,_,_,e⟩:=x;exact ⟨_,e⟩
  |dK kvs=>obtain ⟨_,_,_,_,o,_,_,e,_⟩:=x;exact ⟨o,e⟩
  |dT kvs=>obtain ⟨_,_,_,_,o,_,_,e,_⟩:=x;exact ⟨o,e⟩
  |set S n=>obtain ⟨o,_,_,_,e,_⟩:=x;exact ⟨o,e⟩
  |ins C dx fs=>obtain ⟨_,_,_,e,_⟩:=x;exact ⟨_,e⟩
  |ext φ=>obtain ⟨_,⟨_,e⟩,_⟩:=x;exact ⟨_,e⟩
  |_=>exact de mu
 obtain ⟨od,e⟩:=ex;have new:dR X.prog X.w (upd H d (.kY od u)) s.heap d (.kY od u):=by
  refine ⟨e,x.fS (λb v _ q=>q) (λb q=>?_) λb xs q=>?_⟩
  ·rw [bK (λz=>by rw [z,h] at q;cases q;exact mu)];exact q
  ·rw [bK (λz=>by rw [z,h] at q;cases q;exact mu)];exact q
 exact ⟨od,I.write (x:=d) (e:=d) (t':=s.toks) (h':=s.heap) (by rw [h];exact mu) (.inl rfl) (λb v _ q=>q) ⟨od,e⟩ new⟩
theorem Inv.FQ {d:Addr} {u:HO} (I:Inv X pins σ H s) (h:H d=some u) (mu:Qs (some u)): ∀o' u',X.SU d≠some (.kY o' u'):=λo' u' e=>by
 have q:=I.base.vR d o' u' e;rw [h] at q;cases q;exact mu
theorem Inv.unlock {d:Addr} {od:Obj} {u:HO} (I:Inv X pins σ H s) (h:H d=some (.kY od u)) (hn: ∀o' u',X.SU d≠some (.kY o' u')):Inv X pins σ (upd H d u) s:=by
 have Tc: ∀b o,H b=some o->(∀o' u',o≠ .kY o' u')->b≠d:=λb o e fZ z=>by
  rw [z,h] at e;cases e;exact fZ _ _ rfl
 have neN: ∀b,H b=none->b≠d:=λb e z=>by rw [z,h] at e;cases e
 refine ⟨I.ok,I.os,I.bare,⟨I.base.keep,I.base.slot,λb o e n hx=>?_,I.base.there,λb xs e=>?_,λb o x e=>?_,λb ps e=>?_⟩,I.loc,I.cell,?_,λx c e=>?_,λp hp=>?_,λb o e=>?_,I.len⟩
 ·rw [bK (neN b (I.base.free b o e n hx))];exact I.base.free b o e n hx
 ·have q:=I.base.uD b xs e;rw [bK (Tc b _ q (λ_ _ z=>nomatch z))];exact q
 ·have q:=I.base.vR b o x e;rw [bK (λz=>by rw [z] at e;exact hn _ _ e)];exact q
 ·obtain ⟨m,q⟩:=I.base.yY b ps e;exact ⟨m,by rw [bK (Tc b _ q (λ_ _ z=>nomatch z))];exact q⟩
 ·rw [bK (neN _ I.free)];exact I.free
 ·rw [bK (neN c (I.kZ x c e))];exact I.kZ x c e
 ·obtain ⟨e,n,r⟩:=I.pin p hp;exact ⟨e,by rw [bK (neN _ n)];exact n,r⟩
 ·by_cases hb:b=d
  ·rw [hb,ak] at e;cases e;rw [hb];obtain ⟨_,x⟩:=I.cN d _ h;exact x.fS (λc v _ q=>q) (λc q=>by rw [bK (Tc c _ q (λ_ _ z=>nomatch z))];exact q) λc xs q=>by rw [bK (Tc c _ q (λ_ _ z=>nomatch z))];exact q
  ·rw [bK hb] at e;exact (I.cN b o e).fS (λc v _ q=>q) (λc q=>by rw [bK (Tc c _ q (λ_ _ z=>nomatch z))];exact q) λc xs q=>by rw [bK (Tc c _ q (λ_ _ z=>nomatch z))];exact q
end
def Ug (t:TS):TS:=λD σ H=> ∃d u,H d=some u/\Qs (some u)/\∀od,t ⟨λeM H'=>H' d=some (.kY od u)/\D.nx eM (upd H' d u),λv H'=>H' d=some (.kY od u)/\D.rt v (upd H' d u),λeM H'=>H' d=some (.kY od u)/\D.bk eM (upd H' d u),λeM H'=>H' d=some (.kY od u)/\D.ct eM (upd H' d u)⟩ σ (upd H d (.kY od u))
section
variable {X:Cx}
theorem FB {st:af6} {t:TS} (h:PS X st t):PS X st (Ug t):=by
 intro pins s σ H D I hw;obtain ⟨d,u,hd,mu,hw⟩:=hw;obtain ⟨od,I1⟩:=I.lock hd mu;refine dD (h pins s σ _ _ I1 (hw od)) λf s1 q=>?_;cases f with
 |next=>obtain ⟨eM,H',I2,e,q⟩:=q;exact ⟨eM,_,I2.unlock e (I.FQ hd mu),q⟩
 |brk=>obtain ⟨eM,H',I2,e,q⟩:=q;exact ⟨eM,_,I2.unlock e (I.FQ hd mu),q⟩
 |cont=>obtain ⟨eM,H',I2,e,q⟩:=q;exact ⟨eM,_,I2.unlock e (I.FQ hd mu),q⟩
 |ret v=>obtain ⟨x,eM,H',I2,r,e,q⟩:=q;exact ⟨x,eM,_,I2.unlock e (I.FQ hd mu),r,q⟩
theorem Kp {tg:af0} {pins:List (Addr×Obj)} {σ:St} {H:Hp} {s:afU} {R:It->Hp->Prop} {J:It} {tn:Nat->afV->Prop} {tk:Nat} (I:Inv X pins σ H s) (o:Obj)
  (T:Turn X.prog X.w X.K tg J [s.heap.objs.size] s.heap.objs.size tn) (st:tn 0 (s.heap.push o)) (q:R J H):X1 X pins σ tg R (.ref s.heap.objs.size) {s with heap:=s.heap.push o,toks:=tk}:=by
 refine ⟨s.heap.objs.size,[s.heap.objs.size],tn,J,H,rfl,I.kept λb ob e=>Heap.get?_push_of_some _ e,T,st,λb hb=>?_,q⟩;have e:b=s.heap.objs.size:=by simpa using hb
 subst e;exact I.EF (ay _) (I.cN.fresh (ay _))
end
def Itc (lo c:Int) (n:Nat):It:=⟨λi _=>i<n,λi H x H'=>H'=H/\x= .int (lo+(i:Nat)*c),λi _=>n<=i⟩
theorem AH {P:afZ} {w:afW} {K:aa} {tg:af0} (it:Addr) (lo c:Int) (n:Nat):Turn P w K tg (Itc lo c n) [it] it (λi h=>ag6 h it (lo+(i:Nat)*c) ((n:Int)-(i:Nat)) c) where
 mem:=by simp
 obj:=λi h st b hb=>by
  have e:b=it:=by simpa using hb
  subst e;exact ⟨_,st,λv z=>nomatch z⟩
 keep:=λi h h' st k=>k it (by simp) _ st
 item:=by
  intro X hP hw hK hc i pins s σ H E I hf st hg;subst hP hw hK;obtain ⟨f0,f1,f2,f3,f4,f5⟩:=hf it (by simp);have W:=Walks.range (prog:=X.prog) (w:=X.w) (I.ok.hd hc) it lo c n;refine W.item i s _ _ hg st λv h' tk hv wH kk=>?_;obtain ⟨t,rfl⟩:=hv;have I1:Inv X pins σ H {s with heap:=h',toks:=tk}:=I.turned (λb o hb e=>kk b o (by simpa using hb) e) f0 f1 f3 f4 f5;exact ⟨_,rfl,Lm (s:={s with heap:=h',toks:=tk}) (n:= "range_iterator") wH rfl rfl (by decide) ⟨.int (lo+(i:Nat)*c),H,I1,⟨t,rfl⟩,⟨rfl,rfl⟩,wH,λb hb=>(hf b hb).1⟩⟩
 done:=by
  intro X hP hw hK hc i pins s σ H E I hf st hg;subst hP hw hK;obtain ⟨f0,f1,f2,f3,f4,f5⟩:=hf it (by simp);exact wpAny_pyNext_range_end (I.ok.hd hc) st (by have:n<=i:=hg;omega) λh' eb=>⟨rfl,I.turned (t':=s.toks) (λb o hb e=>eb b o hb e) f0 f1 f3 f4 f5⟩
 self:=λA i s Q E st h=>wpAny_pyIter_rangeiter st h
def RgC (i j c:Int) (n:Nat):Prop:=c≠0/\c.natAbs<1073741824/\Builtin.Range.small i j c=true/\Builtin.Range.rangeSize i j c=n
def Vk (ta:TA):TI:=λσ H R=>ta σ H λvs H1=> ∃(i j c:Int) (n:Nat),vs= [.int i, .int j, .int c]/\RgC i j c n/\R (Itc i c n) H1
section
variable {X:Cx} {tg:af0}
theorem xV {a b c:af0} {ta:TA} {p pos:Pos} (hg:Gl X "range") (hm:X.mg "range" =none) (ha:PA X [a,b,c] ta)
  (hs:af1 [a,b,c] X.env=(false,eval a X.env)::af1 [b,c] X.env:=by rfl) (hpl:(af9 pos (af1 [b,c] X.env)).any (·.1)=false:=by rfl):
  PI X tg (.Call (.Name "range" p) [a,b,c] [] pos) (Vk ta):=by
 intro pins s σ H R I h;refine Call_ (lZ I hg hm boot_range (cX (dD (ha pos pins s σ H _ I h) λus s1 ⟨vs,H1,I1,r1,q1⟩=>?_) hs hpl));obtain ⟨i,j,k,n,e,⟨c0,c1,c2,c3⟩,q⟩:=q1;subst e;cases r1 with
 |cons r rr=>
  cases rr with
  |cons r' rr=>
   cases rr with
   |cons r'' rr=>
    cases rr;obtain ⟨t,rfl⟩:=r;obtain ⟨t',rfl⟩:=r';obtain ⟨t'',rfl⟩:=r'';refine call_range_3 c0 ?_ (.inl (Ar c1));refine wpAny_pyIter_range (IsRange.new ..) c2 ?_;have I2:Inv X pins σ H1 {s1 with heap:=s1.heap.push {cls:= .type "range",data:= .fields #[.int i t, .int j t', .int k t'']}}:=I1.kept (t':=s1.toks) λb o e=>Heap.get?_push_of_some _ e;refine Kp (tk:=s1.toks) I2 _ (AH _ i k n) ?_ q;have e1:i+((0:Nat):Int)*k=i:=by simp
    have e2:(n:Int)-((0:Nat):Int)=Builtin.Range.rangeSize i j k:=by rw [c3];simp
    show ag6 _ _ (i+((0:Nat):Int)*k) ((n:Int)-((0:Nat):Int)) k;rw [e1,e2];exact Heap.get?_push_size _ rfl
end
theorem RC {κ:Type} {kvs:List (κ×V)} {vs:List (κ×Value)} (h:KV kvs vs): ∀{i:Nat} {k:κ} {v:V},kvs[i]?=some (k,v)->∃u,vs[i]?=some (k,u)/\RelV v u:=by
 unfold KV at h;induction h with
 |nil=>intro i k v e;simp at e
 | @cons a b Rx Rw r t ih=>
  intro i k v e;cases i with
  |zero=>
   simp only [Df,fJ] at e;subst e;refine ⟨b.2,?_,r.2⟩;simp only [Df];exact congrArg some (Prod.ext r.1.symm rfl)
  |succ j=>
   simp only [Dg] at e⊢;exact ih e
theorem Kf {k:Key} {u:Value} (h:qG k u=true):RelV (kV k) u:=by
 rcases dM h with ⟨i,t,rfl,rfl⟩|⟨x,t,rfl,rfl⟩
 ·exact ⟨t,rfl⟩
 ·exact ⟨t,rfl⟩
section
variable {X:Cx} {pins:List (Addr×Obj)} {σ:St} {H:Hp} {s:afU} {d:Addr} {o:Obj}
theorem Inv.Sa {kvs:List (Key×V)} (I:Inv X pins σ H s) (h:H d=some (.kY o (.dK kvs))):
  (d==agb)=false/\s.heap.get? d=some o/\o.ExactDict/\∃(es:Array agS) (ep:Nat) (vs:List (Key×Value)),o.data= .dict es ep/\es.size=kvs.length/\KV kvs vs/\s.heap.DictAt (cG X.prog X.w) d vs ep:=by
 obtain ⟨hd,z,hs,vs,kv,o',es,ep,ho,hx,Na,r⟩:=I.cN d _ h;rw [hd] at ho;cases ho;refine ⟨hs,hd,hx,es,ep,vs,Na,?_,kv,o,es,hd,hx,Na,r⟩;have l1:=r.2.1.length;have l2:kvs.length=vs.length:=Paired.length kv;rw [gU] at l1;omega
end
def Iti (d:Addr) (o:Obj) (kvs:List (Key×V)):It:=
 ⟨λi H=>H d=some (.kY o (.dK kvs))/\i<kvs.length,λi H x H'=> ∃T k v,kvs[i]?=some (k,v)/\x= .ref T/\H T=none/\H'=upd H T (.tup [kV k,v]),λi H=>H d=some (.kY o (.dK kvs))/\kvs.length<=i⟩
theorem Gf {o:Obj} {es Ql:Array agS} {ep Qm:Nat} (h:o.data= .dict es ep) (h':o.data= .dict Ql Qm):Ql=es/\Qm=ep:=by
 rw [h] at h';cases h';exact ⟨rfl,rfl⟩
section
variable {P:afZ} {w:afW} {K:aa} {tg:af0} {d:Addr} {o:Obj} {es:Array agS} {ep:Nat}
theorem DF {kvs:List (Key×V)} {elts:List af0} {kk:Nat} {mK:Pos} (it:Addr) (hod:o.data= .dict es ep):
  Turn P w K (.Tuple elts kk mK) (Iti d o kvs) [it] it (λi h=> ∃ok ov,IsItemIter h it d i kvs.length ep ok ov) where
 mem:=by simp
 obj:=λi h st b hb=>by
  have e:b=it:=by simpa using hb
  subst e;obtain ⟨ok,ov,e⟩:=st;exact ⟨_,e,λv z=>nomatch z⟩
 keep:=λi h h' st k=>let ⟨ok,ov,e⟩:=st;⟨ok,ov,k it (by simp) _ e⟩
 item:=by
  intro X hP hw hK hc i pins s σ H E I hf st hg;subst hP hw hK;obtain ⟨hd,hi⟩:=hg;obtain ⟨hs,hgd,hx,Ql,Qm,vs,Na,hsz,kv,hm⟩:=I.Sa hd;obtain ⟨rfl,rfl⟩:=Gf hod Na;obtain ⟨⟨k,v⟩,F6⟩: ∃p,kvs[i]?=some p:=⟨kvs[i],ao hi⟩
  obtain ⟨u,hu,ru⟩:=RC kv F6;have hl:kvs.length=vs.length:=Paired.length kv;obtain ⟨ok,ov,he⟩:=st;rw [hl] at he;have i4:it<s.heap.objs.size:=Heap.lt_size he;refine wpAny_pyNext_items_item he hm hu λkey h' RX ho hT hz hk=>?_;refine ⟨_,rfl,wpAny_letOwnedTupleGo_items (s:={s with heap:=h'}) ho λwL R4 sb=>?_⟩;have Ll:wL.get? s.heap.objs.size=some {cls:= .type "tuple",data:= .seq #[key,u]}:=(sb.2 _ (gR i4)).trans hT;have new:dR X.prog X.w (upd H s.heap.objs.size (.tup [kV k,v])) wL s.heap.objs.size (.tup [kV k,v]):=
   ⟨by show 2<=sizeLine;decide,[key,u], .cons (Kf (show qG k key=true from RX)) (.cons ru .nil),⟨_,Ll,rfl,_,rfl⟩⟩
  have I1:Inv X pins σ (upd H s.heap.objs.size (.tup [kV k,v])) {s with heap:=wL}:=
   I.om (t':=s.toks) (ch:= [it]) (λb ob hb e=>(sb.2 b (by simpa using hb)).trans (hk b ob (by simpa using hb) e)) hf (ay _) new
  refine ⟨.ref s.heap.objs.size,_,I1,rfl,⟨_,k,v,F6,rfl,I.cN.fresh (ay _),rfl⟩,⟨key,u,?_⟩,λb hb=>?_⟩
  ·rw [hl];exact R4
  ·have e:b=it:=by simpa using hb
   rw [e,bK (bH i4)];exact (hf it (by simp)).1
 done:=by
  intro X hP hw hK hc i pins s σ H E I hf st hg;subst hP hw hK;obtain ⟨hd,hi⟩:=hg;obtain ⟨f0,f1,f2,f3,f4,f5⟩:=hf it (by simp);obtain ⟨hs,hgd,hx,Ql,Qm,vs,Na,hsz,kv,hm⟩:=I.Sa hd;obtain ⟨rfl,rfl⟩:=Gf hod Na;have hl:kvs.length=vs.length:=Paired.length kv;obtain ⟨ok,ov,he⟩:=st;rw [hl] at he;exact wpAny_pyNext_items_end (I.ok.hd hc) he hm (E8 (by omega)) λh' eb=>⟨rfl,I.turned (t':=s.toks) (λb ob hb e=>eb b ob hb e) f0 f1 f3 f4 f5⟩
 self:=λA i s Q E st h=>let ⟨_,_,e⟩:=st;PySem.W.kcp_self e h
end
inductive GL (x:V) (H1:Hp) (R:It->Hp->Prop):Prop
 |mk (d:Addr) (o:Obj) (kvs:List (Key×V)):(x= .ref d)->(H1 d=some (.kY o (.dK kvs)))->(R (Iti d o kvs) H1)->GL x H1 R
def RI (td:TE):TI:=λσ H R=>td σ H λx H1=>GL x H1 R
section
variable {X:Cx} {tg e:af0} {td:TE} {apos eU:Pos}
theorem Bp {elts:List af0} {kk:Nat} {mK:Pos} (he:PE X e td) (hbase:agn e "items" X.env (eval e X.env)=eval e X.env:=by rfl) (hline:(apos.endLine==eU.line)=true:=by rfl):
  PI X (.Tuple elts kk mK) (.Call (.Attribute e "items" apos) [] [] eU) (RI td):=by
 intro pins s σ H R I h;refine agR (T:= "dict") (id:= "dict.items") hbase rfl hline F.plainAttrs_dict F.slot_dict_items F.type_dict_items (dD (he pins s σ H _ I h) λu s1 ⟨x,H1,I1,rx,d,o,kvs,ex,hd,q⟩=>?_);subst ex;obtain rfl:u=Value.ref d:=rx;obtain ⟨hs,hgd,hx,es,ep,vs,Na,hsz,kv,hm⟩:=I1.Sa hd;have hl:kvs.length=vs.length:=Paired.length kv;refine ⟨hm.dictOf.typeIs,hm.dictOf.mapOf.noDict,?_⟩;have I2:Inv X pins σ H1 {s1 with heap:=s1.heap.push {cls:= .type "dict_items",data:= .fields #[.ref d]}}:=I1.kept (t':=s1.toks) λb ob q=>Heap.get?_push_of_some _ q;have fin:wpAny (afY X.prog X.w) X.A (pyIter (.ref s1.heap.objs.size)) (X1 X pins σ (.Tuple elts kk mK) R) X.xe {s1 with heap:=s1.heap.push {cls:= .type "dict_items",data:= .fields #[.ref d]}}:=by
  refine wpAny_pyIter_items (d:=d) (knd:=cG X.prog X.w) ⟨_,Heap.get?_push_size _ rfl,rfl,rfl⟩ (hm.push _) (Kp (tk:=s1.toks) I2 _ (DF _ Na) ⟨.none, .none,?_⟩ q);rw [hl];exact Heap.get?_push_size _ rfl
 show wpAny _ _ (ag0 eU (.builtin "dict.items") [.ref d] [] []) _ X.xe s1;exact method_meetsIn F.slot_dict_items F.entry_dict_items rfl (pX ⟨rfl,hm.dictOf.typeIs,F.args_dict_items_1 _,_,meets_dict_items (cG X.prog X.w) d hs,⟨vs,hm.dictOf⟩,fin⟩)
end
def Ite (K:aa) (a:Addr):It:=
 ⟨λi H=> ∃(xs:List V) (x:V),iL K H a xs/\xs[i]?=some x,λi H v H'=> ∃T x,v= .ref T/\H T=none/\H'=upd H T (.tup [.int (i:Nat),x])/\∀xs,iL K H a xs->xs[i]?=some x,λi H=> ∃xs:List V,iL K H a xs/\xs.length<=i⟩
theorem GX {P:afZ} {w:afW} {K:aa} {elts:List af0} {kk:Nat} {mK:Pos} (a e it:Addr):
  Turn P w K (.Tuple elts kk mK) (Ite K a) [e,it] e (λi h=>(∃old,agl h e it ((i:Nat):Int) old)/\h.IsListIter it a i/\e≠it) where
 mem:=by simp
 obj:=λi h st b hb=>by
  obtain ⟨⟨old,he⟩,⟨o,ho,hc,hd⟩,_⟩:=st;have e':b=e∨b=it:=by simpa using hb
  rcases e' with z|z
  ·rw [z];exact ⟨_,he,λv q=>nomatch q⟩
  ·rw [z];exact ⟨o,ho,λv q=>by rw [hd] at q;cases q⟩
 keep:=λi h h' st k=>let ⟨⟨old,he⟩,hi,fZ⟩:=st;⟨⟨old,k e (by simp) _ he⟩,hi.at λo q=>k it (by simp) o q,fZ⟩
 item:=by
  intro X hP hw hK hc i pins s σ H E I hf st hg;subst hP hw hK;obtain ⟨⟨old,he⟩,hit,fZ⟩:=st;obtain ⟨xs,x,hq,hx⟩:=hg;obtain ⟨its,rv,p,hz⟩:=I.list hq;obtain ⟨u,hu,ru⟩:=rv.get hx;have OD:e<s.heap.objs.size:=Heap.lt_size he;have Z8:it<s.heap.objs.size:=by obtain ⟨_,q,_⟩:=hit;exact Heap.lt_size q
  refine wpAny_pyNext_enum_item he hit p.isList (x:=u) (by simpa using hu) fZ λh' ho RZ hT hsz hk=>?_;refine ⟨_,rfl,ahl (s:={s with heap:=h',toks:=s.toks+1}) ho λwL R4 sb=>?_⟩;have Ll:wL.get? s.heap.objs.size=some {cls:= .type "tuple",data:= .seq #[.int i s.toks,u]}:=(sb.2 _ (gR OD)).trans hT;have new:dR X.prog X.w (upd H s.heap.objs.size (.tup [.int (i:Nat),x])) wL s.heap.objs.size (.tup [.int (i:Nat),x]):=
   ⟨by show 2<=sizeLine;decide,[.int i s.toks,u], .cons ⟨_,rfl⟩ (.cons ru .nil),⟨_,Ll,rfl,_,rfl⟩⟩
  have I1:Inv X pins σ (upd H s.heap.objs.size (.tup [.int (i:Nat),x])) {s with heap:=wL,toks:=s.toks+1}:=
   I.om (ch:= [e,it]) (λb ob hb q=>(sb.2 b (λz=>hb (by simp [z]))).trans (hk b ob (λz=>hb (by simp [z])) (λz=>hb (by simp [z])) q)) hf (ay _) new
  refine ⟨.ref s.heap.objs.size,_,I1,rfl,⟨_,x,rfl,I.cN.fresh (ay _),rfl,λys hy=>by rw [I.nn hy hq];exact hx⟩,⟨⟨u,?_⟩,RZ.at λo q=>(sb.2 it (fc fZ)).trans q,fZ⟩,λb hb=>?_⟩
  ·have e1:((i+1:Nat):Int)=(i:Int)+1:=by omega
   rw [e1];exact R4
  ·have P9:b<s.heap.objs.size:=by
    have e':b=e∨b=it:=by simpa using hb
    rcases e' with z|z
    ·rw [z];exact OD
    ·rw [z];exact Z8
   rw [bK (bH P9)];exact (hf b hb).1
 done:=by
  intro X hP hw hK hc i pins s σ H E I hf st hg;subst hP hw hK;obtain ⟨⟨old,he⟩,hit,fZ⟩:=st;obtain ⟨xs,hq,hx⟩:=hg;obtain ⟨its,rv,p,hz⟩:=I.list hq;obtain ⟨f0,f1,f2,f3,f4,f5⟩:=hf it (by simp);have hl:=rv.length;exact wpAny_pyNext_enum_end (I.ok.hd hc) he hit p.isList (by simp;omega) λh' eb=>⟨rfl,I.turned (t':=s.toks) (λb o hb q=>eb b o hb q) f0 f1 f3 f4 f5⟩
 self:=λA i s Q E st h=>let ⟨⟨_,he⟩,_⟩:=st;ahb he h
inductive ML (K:aa) (vs:List V) (H1:Hp) (R:It->Hp->Prop):Prop
 |mk (a:Addr) (xs:List V):(vs= [.ref a])->(iL K H1 a xs)->(R (Ite K a) H1)->ML K vs H1 R
def Vn (K:aa) (ta:TA):TI:=λσ H R=>ta σ H λvs H1=>ML K vs H1 R
theorem FH {X:Cx} {e:af0} {ta:TA} {p pos mK:Pos} {elts:List af0} {kk:Nat} (hg:Gl X "enumerate") (hm:X.mg "enumerate" =none) (ha:PA X [e] ta) (hs:af1 [e] X.env= [(false,eval e X.env)]:=by rfl):
  PI X (.Tuple elts kk mK) (.Call (.Name "enumerate" p) [e] [] pos) (Vn X.K ta):=by
 intro pins s σ H R I h;refine Call_ (lZ I hg hm boot_enumerate (cX (dD (ha pos pins s σ H _ I h) λus s1 ⟨vs,H1,I1,r1,q1⟩=>?_) hs rfl));obtain ⟨a,xs,ex,hq,q⟩:=q1;subst ex;cases r1 with
 |cons r rr=>
  cases rr;cases r;obtain ⟨its,rv,p',hz⟩:=I1.list hq;refine call_enumerate_list p'.isList λh' he hit hsz hk=>ahb he ?_;have I2:Inv X pins σ H1 {s1 with heap:=h'}:=I1.kept (t':=s1.toks) hk;refine ⟨s1.heap.objs.size+1,[s1.heap.objs.size+1,s1.heap.objs.size],_,_,H1,rfl,I2,GX a (s1.heap.objs.size+1) s1.heap.objs.size,⟨⟨.none,he⟩,hit,wF _⟩,λb hb=>?_,q⟩;have e':b=s1.heap.objs.size+1∨b=s1.heap.objs.size:=by simpa using hb
  have hle:s1.heap.objs.size<=b:=by
   rcases e' with z|z
   ·rw [z];exact dN _ _
   ·rw [z];exact ay _
  exact I1.EF hle (I1.cN.fresh hle)
theorem IS:agK "zip" =some (.type "zip"):=by decide+kernel
def Itz (K:aa) (a b:Addr):It:=
 ⟨λi H=> ∃(xs ys:List V) (x y:V),iL K H a xs/\iL K H b ys/\xs[i]?=some x/\ys[i]?=some y,
  λi H v H'=> ∃T x y,v= .ref T/\H T=none/\H'=upd H T (.tup [x,y])/\(∀xs,iL K H a xs->xs[i]?=some x)/\∀ys,iL K H b ys->ys[i]?=some y,
  λi H=> ∃xs ys:List V,iL K H a xs/\iL K H b ys/\(xs.length<=i∨ys.length<=i)⟩
theorem JA {P:afZ} {w:afW} {K:aa} {elts:List af0} {kk:Nat} {mK:Pos} {a b z TI TO i1 i2:Addr} (D:ZipApart z TI TO i1 i2 a b):
  Turn P w K (.Tuple elts kk mK) (Itz K a b) [z,TI,TO,i1,i2] z (λi h=>IsZip h z TI TO .none/\IsPair h TI (.ref i1) (.ref i2)/\(∃x y,IsPair h TO x y)/\h.IsListIter i1 a i/\h.IsListIter i2 b i) where
 mem:=by simp
 obj:=λi h st c hc=>by
  obtain ⟨hz,Lk,⟨x,y,Nc⟩,⟨o1,e1,_,d1⟩,⟨o2,e2,_,d2⟩⟩:=st;have e':c=z∨c=TI∨c=TO∨c=i1∨c=i2:=by simpa using hc
  rcases e' with q|q|q|q|q
  ·rw [q];exact ⟨_,hz,λv q=>nomatch q⟩
  ·rw [q];exact ⟨_,Lk,λv q=>nomatch q⟩
  ·rw [q];exact ⟨_,Nc,λv q=>nomatch q⟩
  ·rw [q];exact ⟨o1,e1,λv q=>by rw [d1] at q;cases q⟩
  ·rw [q];exact ⟨o2,e2,λv q=>by rw [d2] at q;cases q⟩
 keep:=λi h h' st k=>by
  obtain ⟨hz,Lk,⟨x,y,Nc⟩,h1,h2⟩:=st;exact ⟨k z (by simp) _ hz,k TI (by simp) _ Lk,⟨x,y,k TO (by simp) _ Nc⟩,h1.at λo q=>k i1 (by simp) o q,h2.at λo q=>k i2 (by simp) o q⟩
 item:=by
  intro X hP hw hK hc i pins s σ H E I hf st hg;subst hP hw hK;obtain ⟨hz,Lk,⟨x0,y0,Nc⟩,h1,h2⟩:=st;obtain ⟨xs,ys,x,y,Tp,To,hx,hy⟩:=hg;obtain ⟨its,rv,p,_⟩:=I.list Tp;obtain ⟨vJ,Xh,p2,_⟩:=I.list To;obtain ⟨u,hu,ru⟩:=rv.get hx;obtain ⟨u2,HZ,ru2⟩:=Xh.get hy;have hzl:z<s.heap.objs.size:=Heap.lt_size hz;refine wpAny_pyNext_zip_item D hz Lk Nc h1 h2 p.isList p2.isList (x:=u) (y:=u2) (by simpa using hu) (by simpa using HZ) λh' z' TO' h1' h2' hT hsz hk=>?_;refine ⟨_,rfl,wpAny_letOwnedTupleGo_zip (s:={s with heap:=h'}) z' λwL z'' sb=>?_⟩;have Ll:wL.get? s.heap.objs.size=some {cls:= .type "tuple",data:= .seq #[u,u2]}:=(sb.2 _ (gR hzl)).trans hT;have new:dR X.prog X.w (upd H s.heap.objs.size (.tup [x,y])) wL s.heap.objs.size (.tup [x,y]):=
   ⟨by show 2<=sizeLine;decide,[u,u2], .cons ru (.cons ru2 .nil),⟨_,Ll,rfl,_,rfl⟩⟩
  have I1:Inv X pins σ (upd H s.heap.objs.size (.tup [x,y])) {s with heap:=wL}:=
   I.om (t':=s.toks) (ch:= [z,TI,TO,i1,i2]) (λc o hb q=>(sb.2 c (λq'=>hb (by simp [q']))).trans (hk c o (λq'=>hb (by simp [q'])) (λq'=>hb (by simp [q'])) (λq'=>hb (by simp [q'])) (λq'=>hb (by simp [q'])) q)) hf (ay _) new
  refine ⟨.ref s.heap.objs.size,_,I1,rfl,⟨_,x,y,rfl,I.cN.fresh (ay _),rfl,λl hl=>by rw [I.nn hl Tp];exact hx,λl hl=>by rw [I.nn hl To];exact hy⟩,⟨z'',?_,⟨u,u2,?_⟩,?_,?_⟩,λc XF=>?_⟩
  ·exact (sb.2 _ D.TIz).trans (hk _ _ D.TIz D.TITO D.TIi1 D.TIi2 Lk)
  ·exact (sb.2 _ D.TOz).trans TO'
  ·exact h1'.at λo q=>(sb.2 _ D.i1z).trans q
  ·exact h2'.at λo q=>(sb.2 _ D.i2z).trans q
  ·have i4:c<s.heap.objs.size:=by
    have e':c=z∨c=TI∨c=TO∨c=i1∨c=i2:=by simpa using XF
    rcases e' with q|q|q|q|q
    ·rw [q];exact hzl
    ·rw [q];exact Heap.lt_size Lk
    ·rw [q];exact Heap.lt_size Nc
    ·rw [q];obtain ⟨_,e1,_⟩:=h1;exact Heap.lt_size e1
    ·rw [q];obtain ⟨_,e2,_⟩:=h2;exact Heap.lt_size e2
   rw [bK (bH i4)];exact (hf c XF).1
 done:=by
  intro X hP hw hK hc i pins s σ H E I hf st hg;subst hP hw hK;obtain ⟨hz,Lk,⟨x0,y0,Nc⟩,h1,h2⟩:=st;obtain ⟨xs,ys,Tp,To,aae⟩:=hg;obtain ⟨its,rv,p,_⟩:=I.list Tp;obtain ⟨vJ,Xh,p2,_⟩:=I.list To;have l1:=rv.length;have l2:=Xh.length;have he:its.toArray[i]?=none∨vJ.toArray[i]?=none:=by
   rcases aae with q|q
   ·exact .inl (by simp;omega)
   ·exact .inr (by simp;omega)
  exact wpAny_pyNext_zip_end (I.ok.hd hc) D hz Lk Nc h1 h2 p.isList p2.isList he λh' hk=>⟨rfl,I.Nr (t':=s.toks) (ch:= [z,TI,TO,i1,i2]) (λc o hb q=>
   hk c o (λq'=>hb (by simp [q'])) (λq'=>hb (by simp [q'])) (λq'=>hb (by simp [q'])) (λq'=>hb (by simp [q'])) q) hf⟩
 self:=λA i s Q E st h=>wpAny_pyIter_zip st.1 h
inductive QE (K:aa) (vs:List V) (H1:Hp) (R:It->Hp->Prop):Prop
 |mk (a:Addr) (b:Addr) (xs:List V) (ys:List V):(vs= [.ref a, .ref b])->(iL K H1 a xs)->(iL K H1 b ys)->(R (Itz K a b) H1)->QE K vs H1 R
def Zr (K:aa) (ta:TA):TI:=λσ H R=>ta σ H λvs H1=>QE K vs H1 R
theorem Ko {X:Cx} {e e2:af0} {ta:TA} {p pos mK:Pos} {elts:List af0} {kk:Nat} (hg:Gl X "zip") (hm:X.mg "zip" =none) (ha:PA X [e,e2] ta)
  (hs:af1 [e,e2] X.env=(false,eval e X.env)::af1 [e2] X.env:=by rfl) (hpl:(af9 pos (af1 [e2] X.env)).any (·.1)=false:=by rfl):
  PI X (.Tuple elts kk mK) (.Call (.Name "zip" p) [e,e2] [] pos) (Zr X.K ta):=by
 intro pins s σ H R I h;refine Call_ (lZ I hg hm IS (cX (dD (ha pos pins s σ H _ I h) λus s1 ⟨vs,H1,I1,r1,q1⟩=>?_) hs hpl));obtain ⟨a,b,xs,ys,ex,Tp,To,q⟩:=q1;subst ex;cases r1 with
 |cons r rr=>
  cases rr with
  |cons r' rr=>
   cases rr;cases r;cases r';obtain ⟨its,rv,p1,_⟩:=I1.list Tp;obtain ⟨vJ,Xh,p2,_⟩:=I1.list To;have la:a<s1.heap.objs.size:=p1.lt;have lb:b<s1.heap.objs.size:=p2.lt;refine call_zip_2 p1.isList p2.isList λh' hz Lk Nc h1 h2 hsz hk=>wpAny_pyIter_zip hz ?_;have I2:Inv X pins σ H1 {s1 with heap:=h'}:=I1.kept (t':=s1.toks) hk;refine ⟨s1.heap.objs.size+4,[s1.heap.objs.size+4,s1.heap.objs.size+2,s1.heap.objs.size+3,s1.heap.objs.size,s1.heap.objs.size+1],_,_,H1,rfl,I2,JA (PySem.W.ktu_apart s1.heap.objs.size a b la lb),⟨hz,Lk,⟨_,_,Nc⟩,h1,h2⟩,λc XF=>?_,q⟩;have e':c=s1.heap.objs.size+4∨c=s1.heap.objs.size+2∨c=s1.heap.objs.size+3∨c=s1.heap.objs.size∨c=s1.heap.objs.size+1:=by simpa using XF
   have hle:s1.heap.objs.size<=c:=by
    rcases e' with z|z|z|z|z
    ·rw [z];exact dN _ _
    ·rw [z];exact dN _ _
    ·rw [z];exact dN _ _
    ·rw [z];exact ay _
    ·rw [z];exact dN _ _
   exact I1.EF hle (I1.cN.fresh hle)
end L2
namespace L2
open PySem PySem.Spec PyProof.Rows
abbrev KOf {K:aa} {h:afV} (_:K.In h):aa:=K
end L2
namespace L2
open PySem PySem.Spec PyProof.Rows
def inClass (s:af6) (j:Nat):af6:=match s with
 | .ClassDef _ _ _ body _ _ _ _ _ _ _=>body.getD j (.Pass ⟨0,0,0,0⟩)
 |_=> .Pass ⟨0,0,0,0⟩
def j8 (s:af6):Arguments:=match s with
 | .FunctionDef _ a _ _ _ _ _ _ _ _=>a
 |_=>{posonlyargs:= [],args:= [],vararg:=none,kwonlyargs:= [],kw_defaults:= [],kwarg:=none,defaults:= []}
def gY (s:af6):List af6:=match s with
 | .FunctionDef _ _ b _ _ _ _ _ _ _=>b
 |_=> []
def aM (s:af6):af8:=match s with
 | .FunctionDef _ _ _ _ _ _ sc _ _ _=>sc
 |_=>{kind:= .function,names:= [],isGenerator:=false,isCoroutine:=false}
abbrev E6:Ja:=λ_ _ _ _ _ _=>False
abbrev E0:XK:=λ_ _ _=>False
theorem FL {X:Cx}:Passes E6 X E0:=λ_ _ _ _ _ _ _ h=>h.elim
structure I0 (K:aa) (x qual:Str) (st:af6) (f:Addr) (fd:agd):Prop where
 ex: ∃(oc:Value) (od:Option Addr) (kV doc pm:Value) (an:Option Addr) (db ct:Value) (wJ:Array (Option Value)),
  fd=eT x qual (j8 st) (gY st) (aM st) .none kV doc pm an db ct/\K.lookup f=some ⟨oc,od, .func fd,wJ⟩/\jS K db qual=true
 kp:eA K (.ref f)=true
section
variable {P:afZ} {w:afW} {K:aa} {mg:Str->Option Value} {base:afV}
theorem I0.ok {x qual:Str} {st:af6} {f:Addr} {fd:agd} {N ps:List Str} {k:Nat} {sp:Sp} (F:I0 K x qual st f fd) (S:ba N ps (aM st)) (len: ∀vs H Q E,sp vs H Q E->vs.length=ps.length)
  (Lh: ∀(db:Value) (A:af3) (outer:List Env) (s:afU) (H:Hp) (vs:List V) (Q:VK) (E:XK),gP k (A.deeper (envOfC qual (aM st) s.heap.objs.size f db))->sp vs H Q E->
   ∃t,Du (zW E6 P w K mg base N qual (aM st) f db A outer s H E).HH (gY st) t/\t {nx:=λ_ H'=>Q .fE H',rt:=Q} (start N vs) H):jZ P w K mg base E6 (k+1) f fd ps sp:=by
 obtain ⟨oc,od,kV,doc,pm,an,db,ct,wJ,rfl,lk,Ii⟩:=F.ex;refine Wo lk Ii S len λA outer s H vs Q E hr M3=>?_;obtain ⟨t,h,q⟩:=Lh db A outer s H vs Q E hr M3;exact ⟨t,h.HH,q⟩
theorem I0.binds {x qual:Str} {st:af6} {f:Addr} {fd:agd} {ps:List Str} (F:I0 K x qual st f fd)
  (h: ∀(kV doc pm:Value) (an:Option Addr) (db ct:Value) (us:List Value),us.length=ps.length->bindArgs (eT x qual (j8 st) (gY st) (aM st) .none kV doc pm an db ct) ⟨us,[]⟩=pure (ps.zip us)):Binds K fd ps []:=by
 obtain ⟨oc,od,kV,doc,pm,an,db,ct,wJ,rfl,lk,Ii⟩:=F.ex;exact .all (h kV doc pm an db ct)
theorem zP {x qual:Str} {st:af6} {f:Addr} {oc:Value} {od an:Option Addr} {wJ:Array (Option Value)} {kV doc pm db ct:Value} (l:K.lookup f=some ⟨oc,od, .func (eT x qual (j8 st) (gY st) (aM st) .none kV doc pm an db ct),wJ⟩)
  (c:jS K db qual=true) (k:eA K (.ref f)=true):I0 K x qual st f (eT x qual (j8 st) (gY st) (aM st) .none kV doc pm an db ct):=⟨⟨oc,od,kV,doc,pm,an,db,ct,wJ,rfl,l,c⟩,k⟩
end
theorem jH {A:af3} {k:Nat} (hr:gP k A):A.units+1<af7:=cu (Jn (by decide:1<=64) _) hr.units
section
variable {X:Cx}
theorem pv (i:Nat) {x:Str} {pos:Pos} (hN:X.N[i]?=some x:=by rfl) (hv:WK X.env.scope x:=by first|exact Nh rfl|exact GQ (Nh rfl)|exact GQ (GQ rfl)) (hd:(x==("__debug__" :Str))=false:=by decide)
  (Ii:(x==("__classdict__" :Str))=false:=by decide):PE X (.Name x pos) (yZ i):=Rf hN hv hd Ii
theorem IR:jR X (.builtin "len") (λxs H Q=> ∃a kvs,xs= [V.ref a]/\H a=some (.dK kvs)/\Q (.int kvs.length) H):=by
 intro pins s σ H xs us Q I r h;obtain ⟨a,kvs,rfl,ha,q⟩:=h;obtain ⟨u,rfl,ru⟩:=vals1 r;cases ru;exact WD I (.inl ha) λt s' I'=>⟨.int kvs.length,H,I',⟨t,rfl⟩,q⟩
end
theorem tF {A B:Prop} (h:B):if false=true then A else B:=by
 rw [if_neg aI];exact h
theorem oT {A B:Prop} (h:A):if true=true then A else B:=by
 rw [if_pos rfl];exact h
def aD (H H':Hp):Prop:= ∀b o,H b=some o->H' b=some o
theorem aD.refl (H:Hp):aD H H:=λ_ _ h=>h
theorem aD.trans {H H1 H2:Hp} (a:aD H H1) (b:aD H1 H2):aD H H2:=λc o h=>b c o (a c o h)
theorem aD.free {H H':Hp} (e:aD H H') {l:Addr} (h:H' l=SZ):H l=SZ:=by
 cases q:H l with
 |none=>rfl
 |some o=>
  rw [e l o q] at h;cases h
theorem aD.seq {K:aa} {H H':Hp} {a:Addr} {xs:List V} (e:aD H H') (h:iL K H a xs):iL K H' a xs:=by
 rcases h with (h|⟨o,h⟩)|h
 ·exact .inl (.inl (e _ _ h))
 ·exact .inl (.inr ⟨o,e _ _ h⟩)
 ·exact .inr h
section
variable {κ:Type} [DecidableEq κ]
theorem Jx {kvs:List (κ×V)} {k:κ} (h:cr kvs k=none): ¬k∈kvs.map (·.1):=by
 intro m;obtain ⟨p,hp,e⟩:=aj.mp m;have q:(kvs.any λkv=>decide (kv.1=k))=true:=gL.mpr ⟨p,hp,decide_eq_true e⟩;rw [fL,h] at q;exact absurd q (by simp)
theorem FS: ∀{l:List κ} {k:κ},l.Nodup->¬k∈l->(l++ [k]).Nodup
 | [],k,_,_=>by simp
 |a::r,k,h,hk=>by
  obtain ⟨h1,h2⟩:=bj.mp h;show (a::(r++ [k])).Nodup;refine bj.mpr ⟨λm=>?_,FS h2 λm=>hk (aB.mpr (GQ m))⟩;rcases bF.mp m with q|q
  ·exact h1 q
  ·exact hk (aB.mpr (Nh (aR.mp q).symm))
end
theorem at_of {xs:List V} {z:Int} {j:Nat} {v:V} (e:z=(j:Int)) (h:xs[j]?=some v):Jl xs z=some v:=by
 rw [e];exact Pi h
end L2
namespace Lf
open PySem PyProof.Rows
def E4 (P:afZ) (w:afW) (A:af3) (h0:afV) (G:Nat->Value->Prop) (bt:Nat->Nat->Bool):Prop:=
 ∀(i j:Nat) (x y:Value) (s:afU) (Q E:Value->afU->Prop),(∀b o,h0.get? b=some o->s.heap.get? b=some o)->G i x->G j y->Q (.bool (bt i j)) s->wpAny (afY P w) A (agW .Lt x y) Q E s
section
variable {P:afZ} {w:afW} {A:af3} {R:Result->afU->Prop} {it:Addr} {fp wr:List Addr} {n:Nat} {G:Nat->Value->Prop} {St:Nat->afV->Prop} {h0:afV} {kw:List (Str×Value)}
theorem oE:(toString "min" ++toString ".loop" :String)= "min.loop" :=by decide
theorem U9 (W:Walks P w A.in1 it fp wr n G St) (bt:Nat->Nat->Bool) (cmp:E4 P w A.in1 h0 G bt) (S:Addr) (nS:S∉fp) (XQ:h0.get? S=none) (XO: ∀b∈wr,h0.get? b=none):
  ∀(k j:Nat) (s:afU) (x:Value) (c:Nat),n-(j+1)=k->j+1<=n->St (j+1) s.heap->G (agc bt j) x->(∀b o,h0.get? b=some o->s.heap.get? b=some o)->
  s.heap.get? S=some {cls:= .type "list",dict:=none,data:= .seq #[x,x] c,slots:= #[]}->
  (∀v h' tk,G (agc bt (n-1)) v->(∀b o,b∉wr->b≠S->s.heap.get? b=some o->h'.get? b=some o)->R (.ok (.ret v)) {s with heap:=h',toks:=tk})->
  codeAny (afY P w) A (.builtin "min.loop" ⟨[.ref it, .none, .ref S],kw⟩) R s:=by
 have nw:S∉wr:=λh=>nS (W.sub _ h);intro k;induction k with
 |zero=>
  intro j s x c hk hj st g kp hS hR;have en:j+1=n:=by omega
  refine agI io ?_;rw [Around.under_plainId ci _];show wpAny _ A.in1 (seqItems? (.ref S)>>=_) _ _ s;refine afX (ahc (s:=s) hS rfl ?_);show wpAny _ A.in1 (tryCatch (agm (.ref it)) _>>=_) _ _ s;refine afX (ag1 (W.done s _ _ (en▸st) λh' tk k1=>?_));have Qa:=k1 S _ nw hS;show wpAny _ A.in1 (updateSeq S (λ_=> #[])>>=_) _ _ _;refine afX (ahf Qa rfl (afX (agJ (af2 ?_))));exact hR x _ tk (by rw [<-en];exact g) λb o Dr OE e=>(Heap.get?_update_other _ _ (fc OE)).trans (k1 b o Dr e)
 |succ k ih=>
  intro j s x c hk hj st g kp hS hR;have lt:j+1<n:=by omega
  refine agI io ?_;rw [Around.under_plainId ci _];show wpAny _ A.in1 (seqItems? (.ref S)>>=_) _ _ s;refine afX (ahc (s:=s) hS rfl ?_);show wpAny _ A.in1 (tryCatch (agm (.ref it)) _>>=_) _ _ s;refine afX (ag1 (W.item (j+1) s _ _ lt st λv h' tk gv wH k1=>?_));have Qa:=k1 S _ nw hS;have Vg: ∀b o,h0.get? b=some o->h'.get? b=some o:=λb o e=>k1 b o (λz=>by rw [XO b z] at e;cases e) (kp b o e);show wpAny _ A.in1 (tryCatch (agL [v,v] (agW .Lt v x>>=_)) _>>=_) _ _ _;refine afX (ag1 (agp (afX (cmp (j+1) (agc bt j) v x _ _ _ Vg gv g ?_))));refine afX (agp (agu (afX (agJ (af2 ?_)))));cases hb:bt (j+1) (agc bt j) with
  |true=>
   simp only [if_true];refine afX (ahf Qa rfl (afX (agJ ?_)));rw [oE];refine af2 ⟨agA ci _,ih (j+1) _ v _ (by omega) lt (W.frame _ _ _ wH λb hbf o e=>?_) (by simp only [agc,hb,if_true];exact gv) (λb o e=>?_) (Heap.get?_update_self _ Qa rfl)
    λv' wL JD g' k2=>?_⟩
   ·exact (Heap.get?_update_other _ _ (λz:S=b=>nS (by rw [z];exact hbf))).trans e
   ·exact (Heap.get?_update_other _ _ (λz:S=b=>by rw [<-z,XQ] at e;cases e)).trans (Vg b o e)
   ·exact hR v' wL JD g' λb o Dr OE e=>k2 b o Dr OE ((Heap.get?_update_other _ _ (fc OE)).trans (k1 b o Dr e))
  |false=>
   simp only [bM,if_false];refine afX (agJ ?_);rw [oE];exact af2 ⟨agA ci _,ih (j+1) _ x c (by omega) lt wH (by simp only [agc,hb,bM,if_false];exact g) Vg Qa λv' wL JD g' k2=>
    hR v' wL JD g' λb o Dr OE e=>k2 b o Dr OE (k1 b o Dr e)⟩
theorem KI (W:Walks P w A.in1 it fp wr n G St) (bt:Nat->Nat->Bool) (cmp:E4 P w A.in1 h0 G bt) (S:Addr) (nS:S∉fp) (XQ:h0.get? S=none) (XO: ∀b∈wr,h0.get? b=none) (hn:0<n) {s:afU} {c:Nat} (st:St 0 s.heap)
  (kp: ∀b o,h0.get? b=some o->s.heap.get? b=some o) (hS:s.heap.get? S=some {cls:= .type "list",dict:=none,data:= .seq #[] c,slots:= #[]})
  (hR: ∀v h' tk,G (agc bt (n-1)) v->(∀b o,b∉wr->b≠S->s.heap.get? b=some o->h'.get? b=some o)->R (.ok (.ret v)) {s with heap:=h',toks:=tk}):
  codeAny (afY P w) A (.builtin "min.loop" ⟨[.ref it, .none, .ref S],kw⟩) R s:=by
 have nw:S∉wr:=λh=>nS (W.sub _ h);refine agI io ?_;rw [Around.under_plainId ci _];show wpAny _ A.in1 (seqItems? (.ref S)>>=_) _ _ s;refine afX (ahc (s:=s) hS rfl ?_);show wpAny _ A.in1 (tryCatch (agm (.ref it)) _>>=_) _ _ s;refine afX (ag1 (W.item 0 s _ _ hn st λv h' tk gv wH k1=>?_));have Qa:=k1 S _ nw hS;have Vg: ∀b o,h0.get? b=some o->h'.get? b=some o:=λb o e=>k1 b o (λz=>by rw [XO b z] at e;cases e) (kp b o e);show wpAny _ A.in1 (updateSeq S (λ_=> #[v,v])>>=_) _ _ _;refine afX (ahf Qa rfl ?_);rw [oE];refine af2 ⟨agA ci _,U9 W bt cmp S nS XQ XO _ 0 _ v _ rfl hn (W.frame _ _ _ wH λb hbf o e=>?_) gv (λb o e=>?_) (Heap.get?_update_self _ Qa rfl) λv' wL JD g' k2=>?_⟩
 ·exact (Heap.get?_update_other _ _ (λz:S=b=>nS (by rw [z];exact hbf))).trans e
 ·exact (Heap.get?_update_other _ _ (λz:S=b=>by rw [<-z,XQ] at e;cases e)).trans (Vg b o e)
 ·exact hR v' wL JD g' λb o Dr OE e=>k2 b o Dr OE ((Heap.get?_update_other _ _ (fc OE)).trans (k1 b o Dr e))
end
section
variable {P:afZ} {w:afW} {A:af3} {E:Value->afU->Prop} {s:afU} {l:Addr} {vs:List Value} {Q:Value->afU->Prop}
def Back (Q E:Value->afU->Prop):Result->afU->Prop
 | .ok (.ret v),t=>Q v t
 | .ok _,_=>False
 | .error e,t=>E e t
theorem EV {id:String} {b:agg} {us:List Value} {kw:List (Str×Value)} (h1:builtinKind id=none) (h2:plainId id=true) (h3:entryFor table id=some b) (h4:ags id ⟨us,kw⟩)
  (h:wpAny (afY P w) A.in1 (b ⟨us,kw⟩) (λfin t=>match fin with
   | .done f=>Back Q E (.ok f) t
   | .again c=>c.quiet=true/\codeAny (afY P w) A c (Back Q E) t) E s):wpAny (afY P w) A (call (.builtin id) us kw) Q E s:=by
 have h':wpAny (afY P w) A.in1 (b ⟨us,kw⟩) (λfin s'=>match fin with
   | .done f=>(match (Except.ok f:Result) with| .ok (.ret v)=>Q v s'| .ok _=>False| .error e=>E e s')
   | .again c'=>c'.quiet=true/\codeAny (afY P w) A c' (λr s'=>match r with| .ok (.ret v)=>Q v s'| .ok _=>False| .error e=>E e s') s') E s:=by
  refine wpAny_mono h (λfin t q=>?_) λ_ _ q=>q;cases fin with
  |done f=>cases f<;>exact q
  |again c=>
   refine ⟨q.1,agF q.2 λr t z=>?_⟩;rcases r with e|f
   ·exact z
   ·cases f<;>exact z
 refine ag8 (ahg h2 h3 ?_);simp only [ahh,h1];cases e:Manifest.signature? id with
 |none=>exact af2 h'
 |some sg=>
  have z:Bind.checkArgs id sg ⟨us,kw⟩=pure ():=by simpa only [ags,e] using h4
  simp only [z];exact af2 h'
theorem Cu (a d:Value):ags "min" ⟨[a],[(Str.ofString "default",d)]⟩:=by unfold ags;kernel_rfl
theorem Om (hh:A.handled=none) (hl:s.heap.IsList l vs.toArray) (bt:Nat->Nat->Bool) (cmp:E4 P w A.in1 s.heap (λi v=>vs.toArray[i]?=some v) bt) (fZ:0<vs.length) {kw:List (Str×Value)} (hkw:kw= []∨∃d,kw= [(Str.ofString "default",d)])
  (h: ∀v h' tk,vs[agc bt (vs.length-1)]?=some v->(∀b o,s.heap.get? b=some o->h'.get? b=some o)->Q v {s with heap:=h',toks:=tk}):
  wpAny (afY P w) A (call (.builtin "min") [.ref l] kw) Q E s:=by
 have ha:ags "min" ⟨[.ref l],kw⟩:=by
  rcases hkw with rfl|⟨d,rfl⟩
  ·exact PySem.F.args_min1 _
  ·exact Cu _ _
 have hb: ∃dv,Builtin.Builtins.bindParams "min" ["key","default"] 0 ⟨[],kw⟩=pure [none,dv]/\(dv.toList.map λd=>(Str.ofString "default",d))=kw:=by
  rcases hkw with rfl|⟨d,rfl⟩
  ·exact ⟨none,rfl,rfl⟩
  ·exact ⟨some d,rfl,rfl⟩
 obtain ⟨dv,hb,F6⟩:=hb;refine EV sr q5 ra ha ?_;show wpAny _ A.in1 (Builtin.Builtins.bindParams "min" ["key","default"] 0 ⟨[],kw⟩>>=_) _ _ s;refine afX (ahd hb (afX (af2 ?_)));have i4:l<s.heap.objs.size:=by obtain ⟨_,e,_⟩:=hl;exact Heap.lt_size e
 refine afX (agE hl ?_);refine afX (agZ ?_);have W:=Walks.list (prog:=P) (w:=w) (A:=A.in1) hh s.heap.objs.size l (bH i4) vs.toArray;have sz:(s.heap.push {cls:= .type "list_iterator",data:= .fields #[.ref l, .int 0 0]}).objs.size=s.heap.objs.size+1:=Heap.size_push ..;have e1:(Heap.get? s.heap s.heap.objs.size)=none:=Heap.get?_none_of_le (ay _);have e2:(Heap.get? s.heap (s.heap.objs.size+1))=none:=Heap.get?_none_of_le (lJ _);rw [oE];refine af2 ⟨agA ci _,?_⟩;have Z6:(dv.toList.map λd=>(("default" :Str),d))=kw:=F6;rw [Z6];refine KI (h0:=s.heap) W bt cmp _ (λz=>?_) (by rw [sz];exact e2) (λb hb=>?_) (by rw [be];exact fZ)
  ⟨⟨_,Heap.get?_push_of_some _ (Heap.get?_push_size _ rfl),rfl,rfl⟩,(hl.push _).push _⟩ (λb o e=>Heap.get?_push_of_some _ (Heap.get?_push_of_some _ e)) (Heap.get?_push_size _ rfl) λv h' tk g k=>?_
 ·rw [sz] at z;rcases aB.mp z with e|z
  ·exact absurd e (wF _)
  ·have e:=aR.mp z;rw [<-e] at i4;exact absurd i4 (Nat.not_lt.mpr (lJ _))
 ·rw [aR.mp hb];exact e1
 ·refine h v h' tk (by simpa using g) λb o e=>k b o (λz=>?_) (λz=>?_) (Heap.get?_push_of_some _ (Heap.get?_push_of_some _ e))
  ·rw [aR.mp z,e1] at e;cases e
  ·rw [z,sz,e2] at e;cases e
theorem Ol (hh:A.handled=none) (hl:s.heap.IsList l #[]) (d:Value) (h: ∀h' tk,(∀b o,s.heap.get? b=some o->h'.get? b=some o)->Q d {s with heap:=h',toks:=tk}):
  wpAny (afY P w) A (call (.builtin "min") [.ref l] [(Str.ofString "default",d)]) Q E s:=by
 refine EV sr q5 ra (Cu _ _) ?_;show wpAny _ A.in1 (Builtin.Builtins.bindParams "min" ["key","default"] 0 ⟨[],[(Str.ofString "default",d)]⟩>>=_) _ _ s;refine afX (ahd (show Builtin.Builtins.bindParams "min" ["key","default"] 0 ⟨[],[(Str.ofString "default",d)]⟩=pure [none,some d] from rfl) (afX (af2 ?_)));have i4:l<s.heap.objs.size:=by obtain ⟨_,e,_⟩:=hl;exact Heap.lt_size e
 refine afX (agE hl ?_);refine afX (agZ ?_);have W:=Walks.list (prog:=P) (w:=w) (A:=A.in1) hh s.heap.objs.size l (bH i4) #[];have sz:(s.heap.push {cls:= .type "list_iterator",data:= .fields #[.ref l, .int 0 0]}).objs.size=s.heap.objs.size+1:=Heap.size_push ..;have e1:(Heap.get? s.heap s.heap.objs.size)=none:=Heap.get?_none_of_le (ay _);rw [oE];refine af2 ⟨agA ci _,?_⟩;refine agI io ?_;rw [Around.under_plainId ci _];refine afX (ahc (s:=_) (Heap.get?_push_size _ rfl) rfl ?_);show wpAny _ A.in1 (tryCatch (agm (.ref s.heap.objs.size)) _>>=_) _ _ _;refine afX (ag1 (W.done _ _ _ ⟨⟨_,Heap.get?_push_of_some _ (Heap.get?_push_size _ rfl),rfl,rfl⟩,(hl.push _).push _⟩ λh' tk k=>?_));refine afX (ag2 (af2 ?_));refine h h' tk λb o e=>k b o (λz=>?_) (Heap.get?_push_of_some _ (Heap.get?_push_of_some _ e));rw [aR.mp z,e1] at e;cases e
end
end Lf
namespace Lf
open PySem PyProof.Rows
def tE:List Int->List Int->Bool
 | [],[]=>false
 | [],_::_=>true
 |_::_,[]=>false
 |x::xs,y::ys=>if x=y then tE xs ys else decide (x<y)
theorem zJ: ∀{vs:List Value} {ns:List Int} {i:Nat} {n:Int},IntsAre vs ns->ns[i]?=some n->∃t,vs[i]?=some (.int n t)
 |_,_,_,_, .nil,e=>by simp at e
 |_,_,0,_, .cons m t _,e=>by simp at e;subst e;exact ⟨t,rfl⟩
 |_,_,i+1,n, .cons _ _ r,e=>by simpa using zJ (i:=i) (n:=n) r (by simpa using e)
theorem zI: ∀{vs:List Value} {ns:List Int},IntsAre vs ns->vs.length=ns.length
 |_,_, .nil=>rfl
 |_,_, .cons _ _ r=>by simp [zI r]
section
open PySem.SeqAt
open PySem.AutoSeq1 (wpAny_loadPart')
open PySem.MeetsSeq PySem.MeetsSeq2 PySem.MeetsSeq3
theorem Ry (l b:Addr) (xs ys:Array Value) (n n2:Nat) (dd Qn:Option Addr) (sl PH:Array (Option Value)) (ns ms:List Int) (hi:IntsAre xs.toList ns) (hj:IntsAre ys.toList ms) (k:Nat):
  ∀i:Nat,xs.size-i=k->i<=xs.size->i<=ys.size->Meets (agg.«list.__eq__.loop» ⟨[.ref l, .ref b,rawInt i,rawInt 0],[]⟩)
   (λ_ R s=>s.heap.get? l=some {cls:= .type "list",dict:=dd,data:= .seq xs n,slots:=sl}/\s.heap.get? b=some {cls:= .type "list",dict:=Qn,data:= .seq ys n2,slots:=PH}/\
    R (.ok (.ret (.bool (tE (ns.drop i) (ms.drop i))))) s):=by
 have z1:xs.size=ns.length:=by rw [<-zI hi];simp
 have z2:ys.size=ms.length:=by rw [<-zI hj];simp
 induction k with
 |zero=>
  intro i hk h1 h2 prog w A R s h;obtain ⟨hp,g,d,tk,os⟩:=s;obtain ⟨hl,hb,h⟩:=h
  wp_walk using wpAny_loadPart' hl,wpAny_loadPart' hb
  have e1:xs[((i:Nat):Int).toNat]?=none:=by simp;omega
  rw [e1]
  wp_walk using wpAny_loadPart' hl,wpAny_loadPart' hb
  show R (.ok (.ret (.bool (decide (xs.size<ys.size))))) _;have e2:ns.drop i= []:=iz (by omega);rw [e2] at h;have e3:tE [] (ms.drop i)=decide (xs.size<ys.size):=by
   cases q:ms.drop i with
   |nil=>
    have:ms.length<=i:=List.drop_eq_nil_iff.mp q;exact (decide_eq_false (by omega)).symm
   |cons y r=>
    have: ¬ms.length<=i:=λz=>by rw [iz z] at q;cases q
    exact (decide_eq_true (by omega)).symm
  rw [e3] at h;exact h
 |succ k ih=>
  intro i hk h1 h2 prog w A R s h;obtain ⟨hp,g,d,tk,os⟩:=s;obtain ⟨hl,hb,h⟩:=h
  wp_walk using wpAny_loadPart' hl,wpAny_loadPart' hb
  have lt1:i<ns.length:=by omega
  obtain ⟨t,et⟩:=zJ (i:=i) (n:=ns[i]) hi (ao lt1);have e1:xs[((i:Nat):Int).toNat]?=some (.int ns[i] t):=by rw [Nl, <-et,gc]
  have d1:ns.drop i=ns[i] ::ns.drop (i+1):=gS lt1;rw [d1] at h;rw [e1];by_cases lt2:i<ms.length
  ·obtain ⟨u,eu⟩:=zJ (i:=i) (n:=ms[i]) hj (ao lt2);have e2:ys[((i:Nat):Int).toNat]?=some (.int ms[i] u):=by rw [Nl, <-eu,gc]
   have d2:ms.drop i=ms[i] ::ms.drop (i+1):=gS lt2;rw [d2] at h;rw [e2];have hc:((i:Int)+1)=((i+1:Nat):Int):=by push_cast;rfl
   refine afX (SeqAt.EqAt.int_int ns[i] t ms[i] u prog w _ _ ?_);by_cases e:ns[i]=ms[i]
   ·have eb:(ns[i] ==ms[i])=true:=by simpa using e
    rw [eb];have h:R (.ok (.ret (.bool (if ns[i]=ms[i] then tE (ns.drop (i+1)) (ms.drop (i+1)) else decide (ns[i] <ms[i]))))) _:=h;rw [if_pos e] at h
    wp_walk
    rw [hc];exact ⟨agA plain_eq_loop _,agI entry_eq_loop (by
     rw [Around.under_plainId plain_eq_loop _];exact ih (i+1) (by omega) (by omega) (by omega) prog w A R _ ⟨hl,hb,h⟩)⟩
   ·have eb:(ns[i] ==ms[i])=false:=by simpa using e
    rw [eb];have h:R (.ok (.ret (.bool (if ns[i]=ms[i] then tE (ns.drop (i+1)) (ms.drop (i+1)) else decide (ns[i] <ms[i]))))) _:=h;rw [if_neg e] at h
    wp_walk using wpAny_loadPart' hl,wpAny_loadPart' hb
    rw [e1,e2];have Dm: ∀(s:afU) (Q E:Value->afU->Prop),Q (.bool (decide (ns[i] <ms[i]))) s->wpAny (afY prog w) A.in1 (agW .Lt (.int ns[i] t) (.int ms[i] u)) Q E s:=λs Q E q=>
     richCompare_gives (op:= .Lt) (agX s _ t) (agX s _ u) PySem.F.slot_int_lt PySem.F.entry_int_lt (PySem.F.args_int_lt_2 _ _) (gives_int_lt _ _ t u) (λx=>nomatch x) q
    wp_walk using Dm
    exact h
  ·have e2:ys[((i:Nat):Int).toNat]?=none:=by simp;omega
   have d2:ms.drop i= []:=iz (by omega);rw [d2] at h;rw [e2]
   wp_walk using wpAny_loadPart' hl,wpAny_loadPart' hb
   show R (.ok (.ret (.bool (decide (xs.size<ys.size))))) _;have e3:decide (xs.size<ys.size)=false:=decide_eq_false (by omega);rw [e3];exact h
theorem RB (l b:Addr) (xs ys:Array Value) (n n2:Nat) (dd Qn:Option Addr) (sl PH:Array (Option Value)) (ns ms:List Int) (hi:IntsAre xs.toList ns) (hj:IntsAre ys.toList ms):
  Meets (agg.«list.__lt__» ⟨[.ref l, .ref b],[]⟩)
   (λ_ R s=>s.heap.get? l=some {cls:= .type "list",dict:=dd,data:= .seq xs n,slots:=sl}/\s.heap.get? b=some {cls:= .type "list",dict:=Qn,data:= .seq ys n2,slots:=PH}/\
    R (.ok (.ret (.bool (tE ns ms)))) s):=by
 intro prog w A R s h;obtain ⟨hp,g,d,tk,os⟩:=s;obtain ⟨hl,hb,h⟩:=h;have f3:=AutoSeq1.sub_list_list
 wp_walk using wpAny_loadPart' hl,wpAny_loadPart' hb
 exact ⟨agA plain_eq_loop _,agI entry_eq_loop (by
  rw [Around.under_plainId plain_eq_loop _];exact Ry l b xs ys n n2 dd Qn sl PH ns ms hi hj _ 0 rfl (bw _) (bw _) prog w A R _ ⟨hl,hb,h⟩)⟩
end
section
variable {P:afZ} {w:afW} {A:af3} {E:Value->afU->Prop} {s:afU}
theorem Em {l b:Addr} {xs ys:Array Value} {n n2:Nat} {ns ms:List Int} {Q:Value->afU->Prop} (hl:s.heap.get? l=some {cls:= .type "list",data:= .seq xs n}) (hb:s.heap.get? b=some {cls:= .type "list",data:= .seq ys n2})
  (hi:IntsAre xs.toList ns) (hj:IntsAre ys.toList ms) (hu:A.units<af7) (h:Q (.bool (tE ns ms)) s):wpAny (afY P w) A (agW .Lt (.ref l) (.ref b)) Q E s:=
 richCompare_meets_room (op:= .Lt) ⟨_,hl,rfl⟩ ⟨_,hb,rfl⟩ PySem.F.slot_list_lt PySem.F.entry_list_lt (PySem.F.args_list_lt_2 _ _) (RB l b xs ys n n2 none none #[] #[] ns ms hi hj)
  ⟨hl,hb,show Value.bool (tE ns ms)≠Value.notImplemented/\Q (.bool (tE ns ms)) s from ⟨(λx=>nomatch x),h⟩⟩ hu
end
end Lf
namespace Lf
open PySem PyProof.Rows
section
variable {P:afZ} {w:afW} {K:Type} [DecidableEq K] {knd:HeapKind P w K} {A:af3} {E:Value->afU->Prop} {s:afU}
def mo (xs:List (K×Addr×Value)) (k:K):List (K×Addr×Value):=xs.filter λx=>decide (x.1≠k)
theorem Ck: ∀{xs:List (K×Addr×Value)} {k:K},k∉xs.map (·.1)->mo xs k=xs
 | [],_,_=>rfl
 |x::r,k,h=>by
  rw [bb,aB,not_or] at h;unfold mo;rw [br,if_pos (by simpa using λe=>h.1 e.symm)];exact congrArg (x:: ·) (Ck h.2)
theorem vV {β:Type} (f:K×Addr×Value->β): ∀{xs:List (K×Addr×Value)} {j:Nat} {k:K} {p:Addr×Value},(xs.map (·.1)).Nodup->xs[j]?=some (k,p)->(xs.map f).eraseIdx j=(mo xs k).map f
 | [],_,_,_,_,h=>by simp at h
 |x::r,0,k,p,hn,h=>by
  simp at h;subst h;rw [bb] at hn;have hk:=(bj.mp hn).1;have e:mo ((k,p)::r) k=r:=by
   unfold mo;rw [br,if_neg (by simp)];exact Ck hk
  rw [e];rfl
 |x::r,j+1,k,p,hn,h=>by
  rw [bb] at hn;obtain ⟨h1,h2⟩:=bj.mp hn;have h':r[j]?=some (k,p):=by simpa using h
  have fZ:x.1≠k:=λe=>h1 (e▸aj.mpr ⟨(k,p),aH h',rfl⟩);have e:mo (x::r) k=x::mo r k:=by
   unfold mo;rw [br,if_pos (by simpa using fZ)]
  rw [e,bb,bb,Dj,vV f h2 h']
theorem T9 {d a:Addr} {xs:List (K×Addr×Value)} {k:K} {Q:Option agS->afU->Prop} (hu:knd.room A) (hk:knd.is s.heap k a) (hm:s.heap.DictOfH knd d xs) (hz:xs.length<=sizeLine)
  (h0:agi xs k=none->Q none {s with toks:=s.toks+knd.draws k})
  (h1: ∀e p,agi xs k=some p->e.val=p.2->∀h',h'.DictOfH knd d (mo xs k)->Heap.SameBut d s.heap h'->Q (some e) {s with heap:=h',toks:=s.toks+knd.draws k}):
  wpAny (afY P w) A (Builtin.Dict.takeOut d (.ref a)) Q E s:=by
 obtain ⟨o,es,ep,ho,hc,hd,he,Ts,hn⟩:=hm;have hes:es.size<=sizeLine:=by have:=ahe he;omega
 unfold Builtin.Dict.takeOut;try with_reducible refine agp ?_
 refine afX (knd.pyHash hu hk (afX (wpAny_dictFind_heap (s:={s with toks:=s.toks+knd.draws k}) hu hk ho hd he Ts hn (λno=>af2 (h0 (atKey_none_of_get no))) λj p hj=>?_)));refine afX (ahi (s:={s with toks:=s.toks+knd.draws k}) ho hd ?_);rw [entry_at he j,hj];refine afX (wpAny_updateDictKeys (hz:=hes) (s:={s with toks:=s.toks+knd.draws k}) ho hd (af2 (h1 _ p (atKey_of_get hn hj) rfl _
  ⟨_,_,ep+1,Heap.get?_update_self _ ho (Obj.isFreed_of_dict (Obj.data_mapDictKeys hd _)),hc.mapDictKeys _,Obj.data_mapDictKeys hd _,?_,?_,?_⟩ (Heap.SameBut.update ..))))
 ·have hjl:j<es.size:=by rw [ahe he];exact (aJ.mp hj).1
  rw [<-vV (entryOfKey knd) hn hj, <-he];obtain ⟨l⟩:=es;simp [Array.eraseIdxIfInBounds,show j<l.length from by simpa using hjl]
 ·exact λx hx=>knd.keeps (Ts x (au.mp hx).1) ho hd (Heap.SameBut.update ..)
 ·exact hn.sublist (Yn _ qc)
theorem Y2 {d a:Addr} {k:K} {z:Value} (hd:(d==agb)=false):
  MeetsIn P w (agg.«dict.pop» ⟨[.ref d, .ref a,z],[]⟩) (λA R s=> ∃xs,knd.room A.in1/\knd.is s.heap k a/\s.heap.DictOfH knd d xs/\xs.length<=sizeLine/\
   (agi xs k=none->∀tk,R (.ok (.ret z)) {s with toks:=tk})/\
   (∀p,agi xs k=some p->∀h' tk,h'.DictOfH knd d (mo xs k)->Heap.SameBut d s.heap h'->R (.ok (.ret p.2)) {s with heap:=h',toks:=tk})):=
 .of_wp λA R s ⟨xs,hu,hk,hm,hz,h0,h1⟩=>by
  unfold agg.«dict.pop»;refine afX ?_;unfold Builtin.Dict.keyAndDefault;refine afX (wpAny_notOrdered_dict hm.typeIs ?_);refine af2 ?_;obtain ⟨o,es,ep,ho,hc,Na,he,_⟩:=id hm;have P6:(keyPart (.ref a)).isSome=false:=rfl;simp only [P6,bM,if_false];refine afX (ahi ho Na (afX (af2 ?_)));cases hE:es.isEmpty with
  |true=>
   have hx:xs= []:=by
    have:=ahe he;have e0:es.size=0:=by simpa using hE
    exact bq.mp (by omega)
   simp only [if_true];refine afX (ag2 (afX (af2 ?_)));simp only [GR,if_true];refine afX (ahm hd (afX (ag2 (af2 ⟨z,rfl,h0 (by rw [hx];rfl) _⟩))))
  |false=>
   simp only [bM,if_false];refine afX (T9 hu hk hm hz (λno=>?_) λe p hp hv h' dd sb=>?_)
   ·simp only [GR,if_true];exact afX (ahm hd (afX (ag2 (af2 ⟨z,rfl,h0 no _⟩))))
   ·simp only [Option.isNone_some,bM,if_false];exact afX (agJ (af2 ⟨e.val,rfl,by rw [hv];exact h1 p hp h' _ dd sb⟩))
end
end Lf
open PySem PySem.Spec PyProof.Rows L2
section
variable {P:afZ} {w:afW} {K:aa} {mg:Str->Option Value} {base:afV}
namespace Lf
theorem fi {N ps:List Str} {sc:af8} (h:ba N ps sc:=by exact ⟨rfl,rfl,rfl,by decide+kernel,rfl,by decide+kernel,by decide+kernel⟩):ba N ps sc:=h
def gF (K:aa) (H:Hp) (a:Addr) (f:Str) (v:V):Prop:= ∃C dx fs,H a=some (.ins C dx fs)/\E5 K C/\bG K C f/\fs.lookup f=some v
theorem gF.mono {K:aa} {H H':Hp} {a:Addr} {f:Str} {v:V} (h:gF K H a f v) (s:aD H H'):gF K H' a f v:=by
 obtain ⟨C,dx,fs,h1,h2⟩:=h;exact ⟨C,dx,fs,s _ _ h1,h2⟩
theorem aL {K:aa} {H:Hp} {a:Addr} {f:Str} {v:V} {Q:VK} (h:gF K H a f v) (q:Q v H):Mz K f (.ref a) H Q:=by
 obtain ⟨C,dx,fs,h1,h2,h3,h4⟩:=h;exact ⟨a,C,dx,fs,v,rfl,h1,h2,h3,h4,q⟩
def FY:HO->Nat
 | .lst _=>0| .tup _=>1| .dK _=>2| .dT _=>3| .ins _ _ _=>4| .kY _ _=>5|_=>6
theorem KH {o u:HO} (d:Nat.beq (FY o) (FY u)=false):o≠u:=λe=>by rw [e,Nat.beq_refl] at d;cases d
theorem i8 {H:Hp} {a b:Addr} {o u:HO} (h:H a=some o) (h':H b=some u) (d:Nat.beq (FY o) (FY u)=false):a≠b:=
 qB h h' (KH d)
theorem oH {xs:List V} (C dx:Addr) (fs:List (Str×V)) (e:HO.lst xs= .ins C dx fs):False:=by cases e
theorem aD.new {H:Hp} {p:Addr} {o:HO} (h:H p=none):aD H (upd H p o):=λb u e=>by
 rw [bK (aG e h)];exact e
def dB (a:Addr) (H H':Hp):Prop:= ∀b o,b≠a->H b=some o->H' b=some o
theorem dB.upd {H:Hp} {a:Addr} {o:HO}:dB a H (upd H a o):=λb u hb e=>by rw [bK hb];exact e
theorem aD.but {a:Addr} {H H':Hp} (s:aD H H'):dB a H H':=λb o _ e=>s b o e
theorem dB.trans {a:Addr} {H H1 H2:Hp} (x:dB a H H1) (y:dB a H1 H2):dB a H H2:=λb o hb e=>y b o hb (x b o hb e)
theorem dB.same {a:Addr} {H0 H H':Hp} (s:aD H0 H) (n:H0 a=none) (x:dB a H H'):aD H0 H':=λb o e=>x b o (aG e n) (s b o e)
def bQ {α β:Type} (R:α->β->Prop) (as:List α) (bs:List β):Prop:=as.length=bs.length/\∀(i:Nat) (a:α) (b:β),as[i]?=some a->bs[i]?=some b->R a b
section
variable {α β:Type} {R S:α->β->Prop} {as:List α} {bs:List β}
theorem bQ.nil:bQ R ([]:List α) ([]:List β):=⟨rfl,λi a b h=>by simp at h⟩
theorem bQ.mono (h:bQ R as bs) (k: ∀a b,R a b->S a b):bQ S as bs:=⟨h.1,λi a b x y=>k a b (h.2 i a b x y)⟩
theorem bQ.get (h:bQ R as bs) {i:Nat} {b:β} (e:bs[i]?=some b): ∃a,as[i]?=some a/\R a b:=by
 have hi:i<as.length:=by rw [h.1];exact (aJ.mp e).1
 exact ⟨as[i],ao hi,h.2 i _ b (ao hi) e⟩
theorem bQ.get' (h:bQ R as bs) {i:Nat} {a:α} (e:as[i]?=some a): ∃b,bs[i]?=some b/\R a b:=by
 have hi:i<bs.length:=by rw [<-h.1];exact (aJ.mp e).1
 exact ⟨bs[i],ao hi,h.2 i a _ e (ao hi)⟩
theorem bQ.snoc (h:bQ R as bs) {a:α} {b:β} (r:R a b):bQ R (as++ [a]) (bs++ [b]):=by
 refine ⟨by rw [aK,aK,h.1];rfl,λi x y hx hy=>?_⟩;by_cases hi:i<as.length
 ·rw [bV hi] at hx;rw [bV (by rw [<-h.1];exact hi)] at hy;exact h.2 i x y hx hy
 ·have Ih:as.length<=i:=by omega
  rw [cy Ih] at hx;rw [cy (by rw [<-h.1];exact Ih), <-h.1] at hy;cases q:i-as.length with
  |zero=>
   rw [q] at hx hy;have e1:a=x:=by simpa using hx
   have e2:b=y:=by simpa using hy
   rw [<-e1, <-e2];exact r
  |succ n=>
   rw [q] at hx;simp at hx
theorem bQ.append (h:bQ R as bs) {cs:List α} {ds:List β} (k:bQ R cs ds):bQ R (as++cs) (bs++ds):=by
 refine ⟨by rw [aK,aK,h.1,k.1],λi x y hx hy=>?_⟩;by_cases hi:i<as.length
 ·rw [bV hi] at hx;rw [bV (by rw [<-h.1];exact hi)] at hy;exact h.2 i x y hx hy
 ·have Ih:as.length<=i:=by omega
  rw [cy Ih] at hx;rw [cy (by rw [<-h.1];exact Ih), <-h.1] at hy;exact k.2 _ x y hx hy
theorem bQ.cut (h:bQ R as bs) (i n:Nat):bQ R ((as.drop i).take n) ((bs.drop i).take n):=by
 refine ⟨by simp [h.1],λk x y hx hy=>?_⟩;rw [List.getElem?_take] at hx hy;by_cases hk:k<n
 ·rw [if_pos hk,rq] at hx hy;exact h.2 _ x y hx hy
 ·rw [if_neg hk] at hx;cases hx
end
theorem b0 {as:List Addr} {i:Nat} {x:V} (h:(as.map V.ref)[i]?=some x): ∃a,as[i]?=some a/\x= .ref a:=by
 rw [bp] at h;cases e:as[i]? with
 |none=>rw [e] at h;cases h
 |some a=>rw [e] at h;exact ⟨a,rfl,(bx h).symm⟩
theorem ints_get {ns:List Int} {i:Nat} {x:V} (h:(ns.map V.int)[i]?=some x): ∃n,ns[i]?=some n/\x= .int n:=by
 rw [bp] at h;cases e:ns[i]? with
 |none=>rw [e] at h;cases h
 |some a=>rw [e] at h;exact ⟨a,rfl,(bx h).symm⟩
theorem ik {ns:List Int} {i:Nat} {n:Int} (h:ns[i]?=some n):(ns.map V.int)[i]?=some (.int n):=by rw [bp,h];rfl
theorem cg {as:List Addr} {i:Nat} {a:Addr} (h:as[i]?=some a):(as.map V.ref)[i]?=some (.ref a):=by rw [bp,h];rfl
section
variable (P:afZ) (w:afW) (K:aa) (mg:Str->Option Value) (base:afV)
def Fn (x:Str) (k:Nat) (ps:List Str) (sp:Sp):Prop:= ∃f fd,mg x=some (.ref f)/\eA K (.ref f)=true/\Binds K fd ps []/\jZ P w K mg base E6 k f fd ps sp
def Cl (x:Str) (C:Addr) (k:Nat) (ps:List Str) (sp:Sp):Prop:= ∃f fd,mg x=some (.ref C)/\Mk K C f/\Binds K fd ps []/\jZ P w K mg base E6 k f fd ps sp
def Dn (x:Str) (st:af6) (ps:List Str):Prop:= ∃f fd,I0 K x x st f fd/\mg x=some (.ref f)/\Binds K fd ps []
def Dc (x q:Str) (st:af6) (C:Addr) (ps:List Str):Prop:= ∃f fd,I0 K "__init__" q st f fd/\mg x=some (.ref C)/\Mk K C f/\Binds K fd ps []/\E5 K C
def Ci (x:Str) (n:Int):Prop:= ∃u,mg x=some u/\RelV (.int n) u
end
section
theorem _root_.L2.I0.go {x qual:Str} {st:af6} {f:Addr} {fd:agd} {N ps:List Str} {k:Nat} {sp:Sp} (F:I0 K x qual st f fd) (S:ba N ps (aM st)) (len: ∀vs H Q E,sp vs H Q E->vs.length=ps.length)
  (h: ∀(db:Value) (A:af3) (outer:List Env) (s:afU) (H:Hp) (vs:List V) (Q:VK) (E:XK),gP k (A.deeper (envOfC qual (aM st) s.heap.objs.size f db))->sp vs H Q E->
   let X:=(zW E6 P w K mg base N qual (aM st) f db A outer s H E).HH
   ∃t,Du X (gY st) t/\t {nx:=λ_ H'=>Q .fE H',rt:=Q} (start N vs) H):jZ P w K mg base E6 (k+1) f fd ps sp:=F.ok S len h
theorem Dn.fn {x:Str} {st:af6} {ps:List Str} {k:Nat} {sp:Sp} (D:Dn K mg x st ps) (h: ∀f fd,I0 K x x st f fd->jZ P w K mg base E6 k f fd ps sp):Fn P w K mg base x k ps sp:=by
 obtain ⟨f,fd,F,hm,hb⟩:=D;exact ⟨f,fd,hm,F.kp,hb,h f fd F⟩
theorem Dc.cl {x q:Str} {st:af6} {C:Addr} {ps:List Str} {k:Nat} {sp:Sp} (D:Dc K mg x q st C ps) (h: ∀f fd,I0 K "__init__" q st f fd->E5 K C->jZ P w K mg base E6 k f fd ps sp):Cl P w K mg base x C k ps sp:=by
 obtain ⟨f,fd,F,hm,M,hb,c⟩:=D;exact ⟨f,fd,hm,M,hb,h f fd F c⟩
theorem Dn.go {x:Str} {st:af6} {N ps:List Str} {k:Nat} {sp:Sp} (D:Dn K mg x st ps) (S:ba N ps (aM st)) (h: ∀(f:Addr) (db:Value) (A:af3) (outer:List Env) (s:afU) (H:Hp) (vs:List V) (Q:VK) (E:XK),gP k (A.deeper (envOfC x (aM st) s.heap.objs.size f db))->sp vs H Q E->
  let X:=(zW E6 P w K mg base N x (aM st) f db A outer s H E).HH; ∃t,Du X (gY st) t/\t {nx:=λ_ H'=>Q .fE H',rt:=Q} (start N vs) H) (len: ∀vs H Q E,sp vs H Q E->vs.length=ps.length:=by intro _ _ _ _ h;cases h;subst_vars;rfl):Fn P w K mg base x (k+1) ps sp:=D.fn λf _ F=>F.ok S len (h f)
theorem Dc.go {x q:Str} {st:af6} {C:Addr} {N ps:List Str} {k:Nat} {sp:Sp} (D:Dc K mg x q st C ps) (S:ba N ps (aM st)) (h: ∀(f:Addr),E5 K C->∀(db:Value) (A:af3) (outer:List Env) (s:afU) (H:Hp) (vs:List V) (Q:VK) (E:XK),gP k (A.deeper (envOfC q (aM st) s.heap.objs.size f db))->sp vs H Q E->
  let X:=(zW E6 P w K mg base N q (aM st) f db A outer s H E).HH; ∃t,Du X (gY st) t/\t {nx:=λ_ H'=>Q .fE H',rt:=Q} (start N vs) H) (len: ∀vs H Q E,sp vs H Q E->vs.length=ps.length:=by intro _ _ _ _ h;cases h;subst_vars;rfl):Cl P w K mg base x C (k+1) ps sp:=D.cl λf _ F cl=>F.ok S len (h f cl)
end
section
variable {X:Cx} {x:Str} {k:Nat} {ps:List Str} {sp:Sp} {p pos:Pos} {e:af0} {es:List af0} {t:TA} {C:Addr}
theorem pc {m:Nat} (G:Fn X.prog X.w X.K X.mg X.base x k ps sp) (hr:gP m X.A) (ha:PA X (e::es) t) (hk:k<=m:=by decide) (hg:Gl X x:=by rfl) (EB:(x==("__debug__" :Str))=false:=by decide) (he:af1 (e::es) X.env=(false,eval e X.env)::af1 es X.env:=by rfl)
  (hpl:(af9 pos (af1 es X.env)).any (·.1)=false:=by rfl):PE X (.Call (.Name x p) (e::es) [] pos) (Fb sp [] E0 t):=by
 obtain ⟨f,fd,hm,kp,hb,F⟩:=G;exact N8 F (hr.mono hk) hg hm kp hb .nil FL ha EB he hpl
theorem MX {m:Nat} (G:Cl X.prog X.w X.K X.mg X.base x C k ps sp) (hr:gP m X.A) (ha:PA X (e::es) t) (hk:k+1<=m:=by decide) (hg:Gl X x:=by rfl) (EB:(x==("__debug__" :Str))=false:=by decide) (he:af1 (e::es) X.env=(false,eval e X.env)::af1 es X.env:=by rfl)
  (hpl:(af9 pos (af1 es X.env)).any (·.1)=false:=by rfl):PE X (.Call (.Name x p) (e::es) [] pos) (Fa C sp [] E0 t):=by
 obtain ⟨f,fd,hm,M,hb,F⟩:=G;exact N6 M F (hr.mono hk) hg hm hb .nil FL ha EB he hpl
theorem Y3 (G:Cl X.prog X.w X.K X.mg X.base x C k ps sp) (hr:gP (k+1) X.A) (hg:Gl X x:=by rfl) (EB:(x==("__debug__" :Str))=false:=by decide):PE X (.Call (.Name x p) [] [] pos) (Fa C sp [] E0 oS):=by
 obtain ⟨f,fd,hm,M,hb,F⟩:=G;exact Kq M F hr hg hm hb .nil FL EB
theorem kj {n:Int} (c:Ci X.mg x n) (hg:Gl X x:=by rfl) (hd:(x==("__debug__" :Str))=false:=by decide):PE X (.Name x pos) (tC (.int n)):=by
 obtain ⟨u,hm,r⟩:=c;exact FJ hg hm r hd
end
def top (i:Nat):af6:=SY.main.body.getD i (.Pass ⟨0,0,0,0⟩)
theorem wN {A R:(L2.St->Hp->Prop)->Prop} (N:L2.St->Hp->Prop) (h1:A N) (h2:let Nv:=N;R Nv): ∃N,A N/\R N:=⟨N,h1,h2⟩
theorem qo {t1 t2 u:TS} {D:L2.Ends} {σ:L2.St} {H:Hp} (h:let v2:=u;let v1:=bY t2 v2;bY t1 v1 D σ H):bY t1 (bY t2 u) D σ H:=h
theorem mL {t1 t2 t3 u:TS} {D:L2.Ends} {σ:L2.St} {H:Hp} (h:let v3:=u;let v2:=bY t3 v3;let v1:=bY t2 v2;bY t1 v1 D σ H):bY t1 (bY t2 (bY t3 u)) D σ H:=h
theorem NL {t1 t2 t3 t4 u:TS} {D:L2.Ends} {σ:L2.St} {H:Hp} (h:let v4:=u;let v3:=bY t4 v4;let v2:=bY t3 v3;let v1:=bY t2 v2;bY t1 v1 D σ H):bY t1 (bY t2 (bY t3 (bY t4 u))) D σ H:=h
theorem NK {t1 t2 t3 t4 t5 u:TS} {D:L2.Ends} {σ:L2.St} {H:Hp} (h:let v5:=u;let v4:=bY t5 v5;let v3:=bY t4 v4;let v2:=bY t3 v3;let v1:=bY t2 v2;bY t1 v1 D σ H):bY t1 (bY t2 (bY t3 (bY t4 (bY t5 u)))) D σ H:=h
theorem Q3 {t1 t2 t3 t4 t5 t6 u:TS} {D:L2.Ends} {σ:L2.St} {H:Hp} (h:let v6:=u;let v5:=bY t6 v6;let v4:=bY t5 v5;let v3:=bY t4 v4;let v2:=bY t3 v3;let v1:=bY t2 v2;bY t1 v1 D σ H):bY t1 (bY t2 (bY t3 (bY t4 (bY t5 (bY t6 u))))) D σ H:=h
theorem Uz {t1 t2 t3 t4 t5 t6 t7 u:TS} {D:L2.Ends} {σ:L2.St} {H:Hp} (h:let v7:=u;let v6:=bY t7 v7;let v5:=bY t6 v6;let v4:=bY t5 v5;let v3:=bY t4 v4;let v2:=bY t3 v3;let v1:=bY t2 v2;bY t1 v1 D σ H):bY t1 (bY t2 (bY t3 (bY t4 (bY t5 (bY t6 (bY t7 u)))))) D σ H:=h
theorem YF {t1 t2 t3 t4 t5 t6 t7 t8 t9 u:TS} {D:L2.Ends} {σ:L2.St} {H:Hp} (h:let v9:=u;let v8:=bY t9 v9;let v7:=bY t8 v8;let v6:=bY t7 v7;let v5:=bY t6 v6;let v4:=bY t5 v5;let v3:=bY t4 v4;let v2:=bY t3 v3;let v1:=bY t2 v2;bY t1 v1 D σ H):bY t1 (bY t2 (bY t3 (bY t4 (bY t5 (bY t6 (bY t7 (bY t8 (bY t9 u)))))))) D σ H:=h
theorem UA {t1 t2 t3 t4 t5 t6 t7 t8 t9 t10 t11 QW u:TS} {D:L2.Ends} {σ:L2.St} {H:Hp} (h:let AG:=u;let v11:=bY QW AG;let v10:=bY t11 v11;let v9:=bY t10 v10;let v8:=bY t9 v9;let v7:=bY t8 v8;let v6:=bY t7 v7;let v5:=bY t6 v6;let v4:=bY t5 v5;let v3:=bY t4 v4;let v2:=bY t3 v3;let v1:=bY t2 v2;bY t1 v1 D σ H):bY t1 (bY t2 (bY t3 (bY t4 (bY t5 (bY t6 (bY t7 (bY t8 (bY t9 (bY t10 (bY t11 (bY QW u))))))))))) D σ H:=h
end Lf
namespace Lf
open Vbahaf (fareNumbers cut srcOf dstOf dayOf points single outward homeward pay)
def fz (g:bT):List Int:= [g.carrier,g.src,g.dst,g.day,g.cls]
section
variable (K:aa) (H:Hp)
structure dr (a:Addr) (f:aq):Prop where
 key:gF K H a "key" (.int f.key)
 carrier:gF K H a "carrier" (.int f.carrier)
 near:gF K H a "near" (.int f.src)
 TF:gF K H a "far" (.int f.dst)
 way:gF K H a "way" (.int f.way)
 amount:gF K H a "amount" (.int f.amount)
 classes:gF K H a "classes" (.int f.classes)
 weekdays:gF K H a "weekdays" (.int f.weekdays)
 l8:gF K H a "days_ahead" (.int f.ahead)
 lY:gF K H a "least_stay" (.int f.leastStay)
 oF:gF K H a "most_stay" (.int f.mostStay)
 group:gF K H a "group" (.int f.group)
 oB:gF K H a "open_ends" (.int f.open_)
 kinds:gF K H a "kinds" (.int f.kinds)
 iK:gF K H a "most_segments" (.int f.segs)
def wo (z:Addr) (f:aq) (a:Addr):Prop:= ∃l,l≠z/\gF K H a "numbers" (.ref l)/\H l=some (.lst ((fareNumbers f).map V.int))
structure jf (a:Addr) (g:bT):Prop where
 carrier:gF K H a "carrier" (.int g.carrier)
 origin:gF K H a "origin" (.int g.src)
 target:gF K H a "target" (.int g.dst)
 day:gF K H a "day" (.int g.day)
 uk:gF K H a "booking" (.int g.cls)
def Gx (b:List Addr) (a:Addr) (g:bT):Prop:= ∃l,l∉b/\gF K H a "numbers" (.ref l)/\H l=some (.lst ((fz g).map V.int))
structure md (b:List Addr) (a:Addr) (j:ai):Prop where
 now:gF K H a "now" (.int j.now)
 segs: ∃l as,l∉b/\gF K H a "segments" (.ref l)/\H l=some (.lst (as.map V.ref))/\bQ (jf K H) as j.segs/\bQ (Gx K H b) as j.segs
structure d9 (B:Addr->Prop) (s:ag) (j:ai) (i e:Nat) (a:Addr):Prop where
 ok:i<e/\e<=j.segs.length
 first:gF K H a "first" (.int i)
 last:gF K H a "last" (.int ((e:Int)-1))
 segs: ∃l as, ¬B l/\gF K H a "segments" (.ref l)/\H l=some (.lst (as.map V.ref))/\bQ (jf K H) as (cut j i e)
 origin:gF K H a "origin" (.int (srcOf (cut j i e)))
 target:gF K H a "target" (.int (dstOf (cut j i e)))
 day:gF K H a "day" (.int (dayOf (cut j i e)))
 yp:gF K H a "days_left" (.int (dayOf (cut j i e)-j.now))
 floor: ∃v,gF K H a "floor" (.int v)/\uo s (points (cut j i e)) v
def ma (s:ag) (af:Int) (c:cw) (p:Addr) (f:aq):Prop:= ∃fa,H p=some (.tup [.int (pay s af f c), .ref fa])/\dr K H fa f
def fX (B:Addr->Prop) (s:ag) (af:Int) (c:cw) (l:Addr) (fs:List aq):Prop:= ¬B l/\∃ps,H l=some (.lst (ps.map V.ref))/\bQ (ma K H s af c) ps fs
structure dq (B:Addr->Prop) (s:ag) (fl:List aq) (j:ai) (af:Int) (i e:Nat) (a:Addr):Prop where
 comp: ∃ca,gF K H a "component" (.ref ca)/\d9 K H B s j i e ca
 singles: ∃l,gF K H a "singles" (.ref l)/\fX K H B s af (cut j i e) l (fl.filter λf=>single j af f (cut j i e))
 outs: ∃l,gF K H a "outs" (.ref l)/\fX K H B s af (cut j i e) l (fl.filter λf=>outward j af f (cut j i e))
 VH: ∃l,gF K H a "homes" (.ref l)/\fX K H B s af (cut j i e) l (fl.filter λf=>homeward j af f (cut j i e))
end
def nE (x:cP×Int×Option cP):List Int:= [x.1.1,(x.1.2:Int)-1,x.2.1,match x.2.2 with
 |none=> -1
 |some p=>p.1]
section
variable (K:aa) (H:Hp)
structure eh (B:Addr->Prop) (s:ag) (j:ai) (af:Int) (a:Addr) (u:Un):Prop where
 xK:(tJ s j af u).isSome=true
 vh:gF K H a "paid" (.int (pd s j af u))
 parts: ∃l ps, ¬B l/\gF K H a "parts" (.ref l)/\H l=some (.lst (ps.map V.ref))/\bQ (λp x=>H p=some (.tup ((nE x).map V.int))) ps (jV s j af u)
 we:gF K H a "covers" (.int (d4 u))
end
section
variable {H H':Hp}
theorem dr.mono {a:Addr} {f:aq} (h:dr K H a f) (s:aD H H'):dr K H' a f:=
 ⟨h.key.mono s,h.carrier.mono s,h.near.mono s,h.TF.mono s,h.way.mono s,h.amount.mono s,h.classes.mono s,h.weekdays.mono s,h.l8.mono s,h.lY.mono s,h.oF.mono s,h.group.mono s,h.oB.mono s,h.kinds.mono s,h.iK.mono s⟩
theorem gF.but {a l:Addr} {f:Str} {v:V} {o:HO} (h:gF K H a f v) (hl:H l=some o) (ho: ∀C dx fs,o≠ .ins C dx fs) (b:dB l H H'):gF K H' a f v:=by
 obtain ⟨C,dx,fs,h1,h2⟩:=h;exact ⟨C,dx,fs,b _ _ (qB h1 hl λz=>ho _ _ _ z.symm) h1,h2⟩
theorem dr.but {a l:Addr} {f:aq} {o:HO} (h:dr K H a f) (hl:H l=some o) (ho: ∀C dx fs,o≠ .ins C dx fs) (s:dB l H H'):dr K H' a f:=
 ⟨h.key.but hl ho s,h.carrier.but hl ho s,h.near.but hl ho s,h.TF.but hl ho s,h.way.but hl ho s,h.amount.but hl ho s,h.classes.but hl ho s,h.weekdays.but hl ho s,h.l8.but hl ho s,h.lY.but hl ho s,h.oF.but hl ho s,h.group.but hl ho s,h.oB.but hl ho s,h.kinds.but hl ho s,h.iK.but hl ho s⟩
theorem wo.mono {z a:Addr} {f:aq} (h:wo K H z f a) (s:aD H H'):wo K H' z f a:=by
 obtain ⟨l,h0,h1,h2⟩:=h;exact ⟨l,h0,h1.mono s,s _ _ h2⟩
theorem jf.mono {a:Addr} {g:bT} (h:jf K H a g) (s:aD H H'):jf K H' a g:=
 ⟨h.carrier.mono s,h.origin.mono s,h.target.mono s,h.day.mono s,h.uk.mono s⟩
theorem jf.but {a l:Addr} {g:bT} {o:HO} (h:jf K H a g) (hl:H l=some o) (ho: ∀C dx fs,o≠ .ins C dx fs) (s:dB l H H'):jf K H' a g:=
 ⟨h.carrier.but hl ho s,h.origin.but hl ho s,h.target.but hl ho s,h.day.but hl ho s,h.uk.but hl ho s⟩
theorem Gx.mono {b:List Addr} {a:Addr} {g:bT} (h:Gx K H b a g) (s:aD H H'):Gx K H' b a g:=by
 obtain ⟨l,h0,h1,h2⟩:=h;exact ⟨l,h0,h1.mono s,s _ _ h2⟩
theorem md.mono {b:List Addr} {a:Addr} {j:ai} (h:md K H b a j) (s:aD H H'):md K H' b a j:=by
 obtain ⟨n,l,as,h0,h1,h2,h3,h4⟩:=h;exact ⟨n.mono s,l,as,h0,h1.mono s,s _ _ h2,h3.mono λ_ _ z=>z.mono s,h4.mono λ_ _ z=>z.mono s⟩
section
variable {B B':Addr->Prop} {st:ag} {fl:List aq} {j:ai} {af:Int} {c:cw} {i e:Nat} {a p l:Addr} {f:aq} {fs:List aq} {u:Un} {xs:List V}
theorem d9.mono (h:d9 K H B st j i e a) (s:aD H H'):d9 K H' B st j i e a:=by
 obtain ⟨h0,h1,h2,⟨l,as,hb,h3,h4,h5⟩,h6,h7,h8,h9,v,Wh,Wf⟩:=h;exact ⟨h0,h1.mono s,h2.mono s,⟨l,as,hb,h3.mono s,s _ _ h4,h5.mono λ_ _ z=>z.mono s⟩,h6.mono s,h7.mono s,h8.mono s,h9.mono s,v,Wh.mono s,Wf⟩
theorem d9.weak (h:d9 K H B st j i e a) (k: ∀b,B' b->B b):d9 K H B' st j i e a:=by
 obtain ⟨l,as,hb,h3⟩:=h.segs;exact ⟨h.ok,h.first,h.last,⟨l,as,λz=>hb (k _ z),h3⟩,h.origin,h.target,h.day,h.yp,h.floor⟩
theorem d9.but (h:d9 K H B st j i e a) (hB:B l) (hl:H l=some (.lst xs)) (s:dB l H H'):d9 K H' B st j i e a:=by
 have ho: ∀C dx fs,HO.lst xs≠ .ins C dx fs:=oH;obtain ⟨h0,h1,h2,⟨l',as,hb,h3,h4,h5⟩,h6,h7,h8,h9,v,Wh,Wf⟩:=h;exact ⟨h0,h1.but hl ho s,h2.but hl ho s,⟨l',as,hb,h3.but hl ho s,s _ _ (λz=>hb (by rw [z];exact hB)) h4,h5.mono λ_ _ z=>z.but hl ho s⟩,h6.but hl ho s,h7.but hl ho s,h8.but hl ho s,h9.but hl ho s,v,Wh.but hl ho s,Wf⟩
theorem ma.mono (h:ma K H st af c p f) (s:aD H H'):ma K H' st af c p f:=by
 obtain ⟨fa,h1,h2⟩:=h;exact ⟨fa,s _ _ h1,h2.mono s⟩
theorem ma.but (h:ma K H st af c p f) (hl:H l=some (.lst xs)) (s:dB l H H'):ma K H' st af c p f:=by
 obtain ⟨fa,h1,h2⟩:=h;exact ⟨fa,s _ _ (i8 h1 hl rfl) h1,h2.but hl oH s⟩
theorem fX.mono (h:fX K H B st af c l fs) (s:aD H H'):fX K H' B st af c l fs:=by
 obtain ⟨h0,ps,h1,h2⟩:=h;exact ⟨h0,ps,s _ _ h1,h2.mono λ_ _ z=>z.mono s⟩
theorem fX.weak (h:fX K H B st af c l fs) (k: ∀b,B' b->B b):fX K H B' st af c l fs:=⟨λz=>h.1 (k _ z),h.2⟩
theorem fX.but (h:fX K H B st af c l fs) (hB:B p) (hl:H p=some (.lst xs)) (s:dB p H H'):fX K H' B st af c l fs:=by
 obtain ⟨h0,ps,h1,h2⟩:=h;exact ⟨h0,ps,s _ _ (λz=>h0 (by rw [z];exact hB)) h1,h2.mono λ_ _ z=>z.but hl s⟩
theorem dq.mono (h:dq K H B st fl j af i e a) (s:aD H H'):dq K H' B st fl j af i e a:=by
 obtain ⟨⟨ca,h1,h2⟩,⟨l1,h3,h4⟩,⟨l2,h5,h6⟩,⟨l3,h7,h8⟩⟩:=h;exact ⟨⟨ca,h1.mono s,h2.mono s⟩,⟨l1,h3.mono s,h4.mono s⟩,⟨l2,h5.mono s,h6.mono s⟩,⟨l3,h7.mono s,h8.mono s⟩⟩
theorem dq.weak (h:dq K H B st fl j af i e a) (k: ∀b,B' b->B b):dq K H B' st fl j af i e a:=by
 obtain ⟨⟨ca,h1,h2⟩,⟨l1,h3,h4⟩,⟨l2,h5,h6⟩,⟨l3,h7,h8⟩⟩:=h;exact ⟨⟨ca,h1,h2.weak k⟩,⟨l1,h3,h4.weak k⟩,⟨l2,h5,h6.weak k⟩,⟨l3,h7,h8.weak k⟩⟩
theorem dq.but (h:dq K H B st fl j af i e a) (hB:B l) (hl:H l=some (.lst xs)) (s:dB l H H'):dq K H' B st fl j af i e a:=by
 have ho: ∀C dx fs,HO.lst xs≠ .ins C dx fs:=oH;obtain ⟨⟨ca,h1,h2⟩,⟨l1,h3,h4⟩,⟨l2,h5,h6⟩,⟨l3,h7,h8⟩⟩:=h;exact ⟨⟨ca,h1.but hl ho s,h2.but hB hl s⟩,⟨l1,h3.but hl ho s,h4.but hB hl s⟩,⟨l2,h5.but hl ho s,h6.but hB hl s⟩,⟨l3,h7.but hl ho s,h8.but hB hl s⟩⟩
theorem eh.mono (h:eh K H B st j af a u) (s:aD H H'):eh K H' B st j af a u:=by
 obtain ⟨h0,h1,⟨l,ps,hb,h2,h3,h4⟩,h5⟩:=h;exact ⟨h0,h1.mono s,⟨l,ps,hb,h2.mono s,s _ _ h3,h4.mono λ_ _ z=>s _ _ z⟩,h5.mono s⟩
theorem eh.weak (h:eh K H B st j af a u) (k: ∀b,B' b->B b):eh K H B' st j af a u:=by
 obtain ⟨h0,h1,⟨l,ps,hb,h2⟩,h5⟩:=h;exact ⟨h0,h1,⟨l,ps,λz=>hb (k _ z),h2⟩,h5⟩
theorem eh.but (h:eh K H B st j af a u) (hB:B p) (hl:H p=some (.lst xs)) (s:dB p H H'):eh K H' B st j af a u:=by
 have ho: ∀C dx fs,HO.lst xs≠ .ins C dx fs:=oH;obtain ⟨h0,h1,⟨l,ps,hb,h2,h3,h4⟩,h5⟩:=h;exact ⟨h0,h1.but hl ho s,⟨l,ps,hb,h2.but hl ho s,s _ _ (λz=>hb (by rw [z];exact hB)) h3,h4.mono λ_ _ z=>s _ _ (i8 z hl rfl) z⟩,h5.but hl ho s⟩
end
end
structure HA where
 a:Addr
 dx:Addr
 C:Addr
 f:Addr
 t:Addr
 o:Addr
 x:Addr
 p:Addr
 z:Addr
def HA.bn (h:HA):List Addr:= [h.p,h.z]
def HA.foot (h:HA):List Addr:= [h.a,h.f,h.t,h.o,h.x,h.p]
def M8 (h:HA) (u:Int) (jv:V):List (Str×V):= [("fares", .ref h.f),("together", .ref h.t),("floors", .ref h.o),("taxes", .ref h.x),("percents", .ref h.p),("unit", .int u),("journey",jv)]
def HU (fl:List aq) (gH:List Addr):List (Key×V):=(fl.zip gH).map λx=>(az x.1.key,V.ref x.2)
structure WU (K:aa) (C:Addr):Prop where
 cl:E5 K C
 n1:bG K C "fares"
 n2:bG K C "together"
 n3:bG K C "floors"
 n4:bG K C "taxes"
 n5:bG K C "percents"
 n6:bG K C "unit"
 n7:bG K C "journey"
structure aZ (K:aa) (H:Hp) (h:HA) (s:ag) (fl:List aq):Prop where
 ok:kE s
 hc:WU K h.C
 perm:fl.Perm s.fares
 inst: ∃jv,H h.a=some (.ins h.C h.dx (M8 h s.unit jv))/\match s.journey with
  |none=>jv= .fE
  |some j=> ∃ja,jv= .ref ja/\md K H h.bn ja j
 fares: ∃gH,H h.f=some (.dK (HU fl gH))/\bQ (λf a=>dr K H a f) fl gH/\bQ (wo K H h.z) fl gH
 groups: ∃kvs:List (List Key×V),H h.t=some (.dT kvs)/\(kvs.map (·.1)).Nodup/\(∀k∈kvs.map (·.1), ∃g g':Int,k= [az g,az g']/\0<=g/\g<=7/\0<=g'/\g'<=7)/\∀g g':Int,(cr kvs [az g,az g']).getD (.bl false)= .bl (s.combos.contains (g,g'))
 floors: ∃kvs:List (List Key×V),H h.o=some (.dT kvs)/\kvs.Perm (s.floors.map λx=>([az x.1,az x.2.1],V.int x.2.2))
 taxes: ∃kvs:List (Key×V),H h.x=some (.dK kvs)/\kvs.Perm (s.taxes.map λx=>(az x.1,V.int x.2))
 percents:H h.p=some (.lst (s.percents.map V.int))
 ne1:h.f≠h.x
 ne2:h.t≠h.o
section
variable {H H':Hp} {h:HA} {s:ag} {fl:List aq}
theorem aZ.mono (x:aZ K H h s fl) (e:aD H H'):aZ K H' h s fl:=by
 obtain ⟨ok,hc,perm,⟨jv,i1,i2⟩,⟨gH,f1,f2,f3⟩,⟨kt,t1,t2⟩,⟨ko,o1,o2⟩,⟨kx,x1,x2⟩,p,n1,n2⟩:=x;refine ⟨ok,hc,perm,⟨jv,e _ _ i1,?_⟩,⟨gH,e _ _ f1,f2.mono λ_ _ z=>z.mono e,f3.mono λ_ _ z=>z.mono e⟩,⟨kt,e _ _ t1,t2⟩,⟨ko,e _ _ o1,o2⟩,⟨kx,e _ _ x1,x2⟩,e _ _ p,n1,n2⟩;cases q:s.journey with
 |none=>rw [q] at i2;exact i2
 |some j=>
  rw [q] at i2;obtain ⟨ja,z1,z2⟩:=i2;exact ⟨ja,z1,z2.mono e⟩
theorem aZ.g7 (x:aZ K H h s fl):gF K H h.a "fares" (.ref h.f):=by
 obtain ⟨jv,i1,_⟩:=x.inst;exact ⟨_,_,_,i1,x.hc.cl,x.hc.n1,rfl⟩
theorem aZ.yn (x:aZ K H h s fl):gF K H h.a "together" (.ref h.t):=by
 obtain ⟨jv,i1,_⟩:=x.inst;exact ⟨_,_,_,i1,x.hc.cl,x.hc.n2,rfl⟩
theorem aZ.Gc (x:aZ K H h s fl):gF K H h.a "floors" (.ref h.o):=by
 obtain ⟨jv,i1,_⟩:=x.inst;exact ⟨_,_,_,i1,x.hc.cl,x.hc.n3,rfl⟩
theorem aZ.Ma (x:aZ K H h s fl):gF K H h.a "taxes" (.ref h.x):=by
 obtain ⟨jv,i1,_⟩:=x.inst;exact ⟨_,_,_,i1,x.hc.cl,x.hc.n4,rfl⟩
theorem aZ.yo (x:aZ K H h s fl):gF K H h.a "percents" (.ref h.p):=by
 obtain ⟨jv,i1,_⟩:=x.inst;exact ⟨_,_,_,i1,x.hc.cl,x.hc.n5,rfl⟩
theorem aZ.Qj (x:aZ K H h s fl):gF K H h.a "unit" (.int s.unit):=by
 obtain ⟨jv,i1,_⟩:=x.inst;exact ⟨_,_,_,i1,x.hc.cl,x.hc.n6,rfl⟩
theorem aZ.il (x:aZ K H h s fl) {j:ai} (e:s.journey=some j): ∃ja,gF K H h.a "journey" (.ref ja)/\md K H h.bn ja j:=by
 obtain ⟨jv,i1,i2⟩:=x.inst;rw [e] at i2;obtain ⟨ja,rfl,z⟩:=i2;exact ⟨ja,⟨_,_,_,i1,x.hc.cl,x.hc.n7,rfl⟩,z⟩
theorem aZ.vU (x:aZ K H h s fl) (e:s.journey=none):gF K H h.a "journey" .fE:=by
 obtain ⟨jv,i1,i2⟩:=x.inst;rw [e] at i2;subst i2;exact ⟨_,_,_,i1,x.hc.cl,x.hc.n7,rfl⟩
end
end Lf
namespace Lf
open Vbahaf (rowLess least)
theorem BL: ∀(a b:List Int),HT.lexLt a b=rowLess a b
 | [],[]=>rfl
 | [],_::_=>rfl
 |_::_,[]=>rfl
 |a::r,b::s=>by
  rw [HT.vC,BL r s];show _=(decide (a<b)||(decide (a=b)&&rowLess r s))
  by_cases h:a=b
  ·rw [if_pos h];subst h;simp
  ·rw [if_neg h];simp [h]
theorem FV: ∀(a b:List Int),tE a b=rowLess a b
 | [],[]=>rfl
 | [],_::_=>rfl
 |_::_,[]=>rfl
 |a::r,b::s=>by
  rw [show tE (a::r) (b::s)=(if a=b then tE r s else decide (a<b)) from rfl,FV r s];show _=(decide (a<b)||(decide (a=b)&&rowLess r s))
  by_cases h:a=b
  ·rw [if_pos h];subst h;simp
  ·rw [if_neg h];simp [h]
def AA (rs:List (List Int)) (i j:Nat):Bool:=rowLess (rs.getD i []) (rs.getD j [])
theorem nJ (rs:List (List Int)): ∀(k:Nat),agc (AA rs) k<=k/\∀i,i<=k->rowLess (rs.getD i []) (rs.getD (agc (AA rs) k) [])=false
 |0=>⟨ay _,λi hi=>by
  have e:i=0:=by omega
  subst e;exact fP _⟩
 |k+1=>by
  obtain ⟨h1,h2⟩:=nJ rs k;unfold agc;cases h:AA rs (k+1) (agc (AA rs) k) with
  |true=>
   rw [if_pos rfl];refine ⟨ay _,λi hi=>?_⟩;by_cases e:i=k+1
   ·subst e;exact fP _
   ·cases q:rowLess (rs.getD i []) (rs.getD (k+1) []) with
    |false=>rfl
    |true=>
     have:=qv q h;rw [h2 i (by omega)] at this;cases this
  |false=>
   rw [if_neg aI];refine ⟨by omega,λi hi=>?_⟩;by_cases e:i=k+1
   ·subst e;exact h
   ·exact h2 i (by omega)
theorem xu {rs:List (List Int)} {r:List Int} (fZ:0<rs.length) (h:rs[agc (AA rs) (rs.length-1)]?=some r):least rs=some r:=by
 obtain ⟨h1,h2⟩:=nJ rs (rs.length-1);rw [cq];refine ⟨aH h,λx hx=>?_⟩;obtain ⟨i,hi⟩:=gG hx;have hl:=(aJ.mp hi).1;have:=h2 i (by omega);rw [bh,bh,h,hi] at this;exact this
section
variable {A:af3} {E:Value->afU->Prop} {s:afU} {Q:Value->afU->Prop}
theorem Ru (hh:A.handled=none) {a b:Value} (bt:Nat->Nat->Bool) (cmp:E4 P w A.in1 s.heap (λi v=>(#[a,b]:Array Value)[i]?=some v) bt)
  (h: ∀h' tk,(∀c o,s.heap.get? c=some o->h'.get? c=some o)->Q (if bt 1 0=true then b else a) {s with heap:=h',toks:=tk}):
  wpAny (afY P w) A (call (.builtin "min") [a,b]) Q E s:=by
 refine EV (kw:= []) sr q5 ra (PySem.F.args_min2 _ _) ?_;show wpAny _ A.in1 (Builtin.Builtins.bindParams "min" ["key","default"] 0 ⟨[],[]⟩>>=_) _ _ s;refine afX (ahd (show Builtin.Builtins.bindParams "min" ["key","default"] 0 ⟨[],[]⟩=pure [none,none] from rfl) ?_);show wpAny _ A.in1 (newTuple [a,b] >>=_) _ _ s;refine afX (agZ ?_);have hT:(s.heap.push {cls:= .type "tuple",data:= .seq #[a,b]}).IsTuple s.heap.objs.size #[a,b]:=⟨_,Heap.get?_push_size _ rfl,rfl,0,rfl⟩
 refine afX (wpAny_pyIter_tuple hT ?_);refine afX (agZ ?_);have sz:(s.heap.push {cls:= .type "tuple",data:= .seq #[a,b]}).objs.size=s.heap.objs.size+1:=Heap.size_push ..;have YB:((s.heap.push {cls:= .type "tuple",data:= .seq #[a,b]}).push {cls:= .type "tuple_iterator",data:= .fields #[.ref s.heap.objs.size, .int 0 0]}).objs.size=s.heap.objs.size+2:=by
  rw [Heap.size_push,sz]
 have W:=Walks.tuple (prog:=P) (w:=w) (A:=A.in1) hh (s.heap.push {cls:= .type "tuple",data:= .seq #[a,b]}).objs.size s.heap.objs.size (by rw [sz];exact bH (fH _)) #[a,b];have e1:(Heap.get? s.heap (s.heap.objs.size+1))=none:=Heap.get?_none_of_le (lJ _);have e2:(Heap.get? s.heap (s.heap.objs.size+2))=none:=Heap.get?_none_of_le (by omega);rw [oE];refine af2 ⟨agA ci _,?_⟩;refine KI (h0:=s.heap) W bt cmp _ (λz=>?_) (by rw [YB];exact e2) (λb hb=>?_) (by simp)
  ⟨⟨_,Heap.get?_push_of_some _ (Heap.get?_push_size _ rfl),rfl,rfl⟩,(hT.push _).push _⟩ (λb o e=>Heap.get?_push_of_some _ (Heap.get?_push_of_some _ (Heap.get?_push_of_some _ e))) (Heap.get?_push_size _ rfl) λv h' tk g k=>?_
 ·rw [YB,sz] at z;rcases aB.mp z with e|z
  ·exact absurd (show (s.heap.objs.size+2:Nat)=s.heap.objs.size+1 from e) (by omega)
  ·exact absurd (show (s.heap.objs.size+2:Nat)=s.heap.objs.size from aR.mp z) (by omega)
 ·rw [aR.mp hb,sz];exact e1
 ·have g:(#[a,b]:Array Value)[agc bt 1]?=some v:=g;have hv:v=if bt 1 0=true then b else a:=by
   unfold agc agc at g;cases q:bt 1 0 with
   |true=>rw [q,if_pos rfl] at g;rw [if_pos rfl];simpa using g.symm
   |false=>rw [q,if_neg aI] at g;rw [if_neg aI];simpa using g.symm
  rw [hv];refine h h' tk λb o e=>k b o (λz=>?_) (λz=>?_) (Heap.get?_push_of_some _ (Heap.get?_push_of_some _ (Heap.get?_push_of_some _ e)))
  ·rw [aR.mp z,sz,e1] at e;cases e
  ·rw [z,YB,e2] at e;cases e
end
section
variable {X:Cx} {pins:List (Addr×Obj)} {σ:L2.St} {H:Hp} {s:afU}
def Cz (K:aa) (H:Hp) (ps:List Addr) (rs:List (List Int)):Prop:=bQ (λp r=>Ah K H p (r.map V.int)) ps rs
def Qq (H:Hp) (ps:List Addr) (rs:List (List Int)):Prop:=bQ (λp r=>H p=some (.lst (r.map V.int))) ps rs
theorem SG (I:Inv X pins σ H s) (hu:X.A.units+64<af7) {ps:List Addr} {rs:List (List Int)} {its:List Value} (hR:Cz X.K H ps rs) (rv:Vals (ps.map V.ref) its):
  E4 X.prog X.w X.A.in1 s.heap (λi v=>its.toArray[i]?=some v) (AA rs):=by
 intro i j x y s' Q E kp gx gy q;have key: ∀{i:Nat} {x:Value},its.toArray[i]?=some x->∃p r,rs[i]?=some r/\x= .ref p/\Ah X.K H p (r.map V.int):=λ{i x} g=>by
  have g:its[i]?=some x:=by simpa using g
  have hl:=rv.length;rw [ab] at hl;have hi:i<ps.length:=by rw [hl];exact (aJ.mp g).1
  obtain ⟨u,zK,HZ⟩:=rv.get (cg (ao hi));rw [g] at zK;cases zK;obtain ⟨r,M5,Ia⟩:=hR.get' (ao hi);exact ⟨_,r,M5,HZ,Ia⟩
 obtain ⟨p,r,hr,rfl,hp⟩:=key gx;obtain ⟨p',r',yh,rfl,F5⟩:=key gy;obtain ⟨t1,r1,p1,_⟩:=I.tuple hp;obtain ⟨t2,r2,p2,_⟩:=I.tuple F5;have p1':IsTup s'.heap p t1.toArray:=by obtain ⟨o,e,c⟩:=p1;exact ⟨o,kp _ _ e,c⟩
 have p2':IsTup s'.heap p' t2.toArray:=by obtain ⟨o,e,c⟩:=p2;exact ⟨o,kp _ _ e,c⟩
 have i1:IntsAre t1.toArray.toList r:=intsAre_of r1;have i2:IntsAre t2.toArray.toList r':=intsAre_of r2;refine HT.El p1' p2' i1 i2 (show X.A.units+1<af7 by omega) ?_;rw [BL];have:AA rs i j=rowLess r r':=by unfold AA;rw [bh,bh,hr,yh];rfl
 rw [<-this];exact q
theorem aaL (I:Inv X pins σ H s) (hu:X.A.units+64<af7) {ps:List Addr} {rs:List (List Int)} {its:List Value} (hR:Qq H ps rs) (rv:Vals (ps.map V.ref) its):
  E4 X.prog X.w X.A.in1 s.heap (λi v=>its.toArray[i]?=some v) (AA rs):=by
 intro i j x y s' Q E kp gx gy q;have key: ∀{i:Nat} {x:Value},its.toArray[i]?=some x->∃p r,rs[i]?=some r/\x= .ref p/\H p=some (.lst (r.map V.int)):=λ{i x} g=>by
  have g:its[i]?=some x:=by simpa using g
  have hl:=rv.length;rw [ab] at hl;have hi:i<ps.length:=by rw [hl];exact (aJ.mp g).1
  obtain ⟨u,zK,HZ⟩:=rv.get (cg (ao hi));rw [g] at zK;cases zK;obtain ⟨r,M5,Ia⟩:=hR.get' (ao hi);exact ⟨_,r,M5,HZ,Ia⟩
 obtain ⟨p,r,hr,rfl,hp⟩:=key gx;obtain ⟨p',r',yh,rfl,F5⟩:=key gy;obtain ⟨_,t1,n1,r1,e1⟩:=(show dR X.prog X.w H s.heap p (.lst (r.map V.int)) from I.cN _ _ hp)
 obtain ⟨_,t2,n2,r2,e2⟩:=(show dR X.prog X.w H s.heap p' (.lst (r'.map V.int)) from I.cN _ _ F5)
 refine Em (kp _ _ e1) (kp _ _ e2) (intsAre_of (by simpa using r1)) (intsAre_of (by simpa using r2)) (show X.A.units+1<af7 by omega) ?_;rw [FV];have:AA rs i j=rowLess r r':=by unfold AA;rw [bh,bh,hr,yh];rfl
 rw [<-this];exact q
end
def PN (K:aa) (rows:Hp->List Addr->List (List Int)->Prop):List V->Hp->VK->Prop:=λvs H Q=> ∃(a:Addr) (ps:List Addr) (rs:List (List Int)),vs= [V.ref a]/\iL K H a (ps.map V.ref)/\rows H ps rs/\0<ps.length/\
 ∀(i:Nat) (p:Addr) (r:List Int),ps[i]?=some p->rs[i]?=some r->least rs=some r->Q (.ref p) H
section
variable {X:Cx}
theorem vv {pins:List (Addr×Obj)} {σ:L2.St} {H:Hp} {s:afU} {Q:VK} (hc:X.calm=true) (I:Inv X pins σ H s) {a:Addr} {ps:List Addr} {rs:List (List Int)} (hs:iL X.K H a (ps.map V.ref)) (hlen:ps.length=rs.length)
  (cmp: ∀its,Vals (ps.map V.ref) its->E4 X.prog X.w X.A.in1 s.heap (λi v=>its.toArray[i]?=some v) (AA rs)) (fZ:0<ps.length) {kw:List (Str×Value)} (hkw:kw= []∨∃d,kw= [(Str.ofString "default",d)])
  (q: ∀(i:Nat) (p:Addr) (r:List Int),ps[i]?=some p->rs[i]?=some r->least rs=some r->Q (.ref p) H):
  wpAny (afY X.prog X.w) X.A (call (.builtin "min") [.ref a] kw) (EP X pins σ Q) X.xe s:=by
 obtain ⟨its,rv,hl,_⟩:=I.list hs;have Dq:=rv.length;rw [ab] at Dq;refine Om (I.ok.hd hc) hl.isList (AA rs) (cmp its rv) (by omega) hkw λv h' tk hv hk=>?_;have e:its.length=rs.length:=by omega
 rw [e] at hv;obtain ⟨b1,b2⟩:=nJ rs (rs.length-1);have hi:agc (AA rs) (rs.length-1)<ps.length:=by omega
 have hp:=ao hi;have hr:rs[agc (AA rs) (rs.length-1)]?=some (rs[agc (AA rs) (rs.length-1)]'(by omega)):=ao (by omega);obtain ⟨u,zK,HZ⟩:=rv.get (cg hp);rw [hv] at zK;cases zK;obtain rfl:v=Value.ref _:=HZ;exact ⟨.ref _,H,I.kept hk,rfl,q _ _ _ hp hr (xu (by omega) hr)⟩
theorem O6 (hc:X.calm=true) (hu:X.A.units+64<af7):jR X (.builtin "min") (PN X.K (Cz X.K)):=by
 intro pins s σ H vs us Q I r h;obtain ⟨a,ps,rs,rfl,hs,hR,fZ,q⟩:=h;rw [Vals.zn r];exact vv hc I hs hR.1 (λits rv=>SG I hu hR rv) fZ (.inl rfl) q
theorem O7 (hc:X.calm=true) (hu:X.A.units+64<af7):jR X (.builtin "min") (PN X.K Qq):=by
 intro pins s σ H vs us Q I r h;obtain ⟨a,ps,rs,rfl,hs,hR,fZ,q⟩:=h;rw [Vals.zn r];exact vv hc I hs hR.1 (λits rv=>aaL I hu hR rv) fZ (.inl rfl) q
def Uf (K:aa) (te:TE):TE:=λσ H Q=>te σ H λx H1=> ∃(a:Addr) (ps:List Addr) (rs:List (List Int)),x= .ref a/\iL K H1 a (ps.map V.ref)/\Cz K H1 ps rs/\
 (ps= []->Q .fE H1)/\∀(i:Nat) (p:Addr) (r:List Int),ps[i]?=some p->rs[i]?=some r->least rs=some r->Q (.ref p) H1
theorem FI {e:af0} {te:TE} {p pos Eu eU:Pos} {k:Nat} (hc:X.calm=true) (hu:X.A.units+64<af7) (hm:X.mg "min" =none) (he:PE X e te) (hg:Gl X "min" :=by rfl) (hs:af1 [e] X.env= [(false,eval e X.env)]:=by rfl):
  PE X (.Call (.Name "min" p) [e] [⟨some "default", .Constant .none k eU,Eu⟩] pos) (Uf X.K te):=by
 intro pins s σ H Q I h;refine agG (lZ I hg hm hZ ?_);have hA:PA X [e] (iq te oS):=ae he ax hs;have hK:PK X [⟨some "default", .Constant .none k eU,Eu⟩] (iq (tC .fE) oS):=FF lS Kn;refine callWith_kw (he:=by rw [hs];rfl) (hplain:=by rw [hs];rfl) (hall:=rfl) (hkw:=rfl) ?_;refine dD (hA pos pins s σ H (λvs H1=>match vs with
  | [x]=> ∃(a:Addr) (ps:List Addr) (rs:List (List Int)),x= .ref a/\iL X.K H1 a (ps.map V.ref)/\Cz X.K H1 ps rs/\
   (ps= []->Q .fE H1)/\∀(i:Nat) (p:Addr) (r:List Int),ps[i]?=some p->rs[i]?=some r->least rs=some r->Q (.ref p) H1
  |_=>False) I h) λus s1 ⟨vs,H1,I1,r1,q1⟩=>?_
 ·match vs,q1,r1 with
  | [x],q1,r1=>
  obtain ⟨a,ps,rs,rfl,hs1,hR,q0,q2⟩:=q1;rw [Vals.zn r1];refine dD (hK pos pins s1 σ H1 (λzs H2=>zs= [.fE]/\H2=H1) I1 ⟨rfl,rfl⟩) λws s2 ⟨zs,H2,I2,rz,ez,eH⟩=>?_;subst ez eH;obtain ⟨u,rfl,ru⟩:=vals1 rz;obtain rfl:u=Value.none:=ru;show wpAny _ _ (call (.builtin "min") [.ref a] [(Str.ofString "default", .none)]) _ _ _;by_cases fZ:0<ps.length
  ·exact vv hc I2 hs1 hR.1 (λits rv=>SG I2 hu hR rv) fZ (.inr ⟨_,rfl⟩) q2
  ·have e0:ps= []:=bq.mp (by omega);subst e0;obtain ⟨its,rv,hl,_⟩:=I2.list hs1;cases rv;exact Ol (I2.ok.hd hc) hl.isList .none λh' tk hk=>⟨.fE,_,I2.kept hk,rfl,q0 rfl⟩
theorem ES (hc:X.calm=true) (hu:X.A.units+64<af7):jR X (.builtin "min") (λxs H Q=> ∃(a b:Addr) (r t:List Int),xs= [.ref a, .ref b]/\Ah X.K H a (r.map V.int)/\Ah X.K H b (t.map V.int)/\Q (.ref (if rowLess t r=true then b else a)) H):=by
 intro pins s σ H xs us Q I r h;obtain ⟨a,b,n,m,rfl,ha,hb,q⟩:=h;obtain ⟨u,w',rfl,ru,u4⟩:=vals2 r;cases ru;cases u4;have hR:Cz X.K H [a,b] [n,m]:=(bQ.nil.snoc (a:=a) (b:=n) ha).snoc (a:=b) (b:=m) hb;have cmp:=SG (its:= [.ref a, .ref b]) I hu hR (.cons rfl (.cons rfl .nil));refine Ru (I.ok.hd hc) (AA [n,m]) cmp λh' tk k=>⟨_,H,I.kept k,?_,q⟩
 have e:AA [n,m] 1 0=rowLess m n:=rfl;rw [e];cases rowLess m n<;>rfl
end
end Lf
namespace Lf
open Vbahaf (rowLess least)
theorem Hs {x:Option V} (h:jY x none):x=none:=by
 cases x with
 |none=>rfl
 |some v=>exact h.elim
theorem Hr {x:Option V} {u:Value} (h:jY x (some u)): ∃v,x=some v/\RelV v u:=by
 cases x with
 |none=>exact h.elim
 |some v=>exact ⟨v,rfl,h⟩
section
variable {A:af3} {E:Value->afU->Prop} {s:afU} {K:Type} [DecidableEq K] {knd:HeapKind P w K}
theorem Eo (d:Addr) (hd:(d==agb)=false):
  MeetsIn P w (agg.«dict.__len__» ⟨[.ref d],[]⟩) (λ_ R s=> ∃xs,s.heap.DictOfH knd d xs/\R (.ok (.ret (.int xs.length s.toks))) {s with toks:=s.toks+1}):=
 .of_wp λA R s ⟨kvs,hm,h⟩=>by
  obtain ⟨o,es,ep,ho,hc,aah,hk,_⟩:=hm;show wpAny _ _ (dictSize d>>=_) _ _ s;unfold dictSize;refine afX (afX (ahi ho aah (af2 ?_)));show wpAny _ _ (Builtin.Dict.pendingCount d>>=_) _ _ s;refine afX (wpAny_pendingCount_other hd ?_);refine wpAny_ret_mkInt ?_;have:es.size=kvs.length:=ahe hk;rw [oe,this];exact h
theorem IQ {d:Addr} {xs:List (K×Addr×Value)} {Q:Value->afU->Prop} (hd:(d==agb)=false) (hm:s.heap.DictOfH knd d xs) (V4:(xs.length:Int)<2^63)
  (h:Q (.int xs.length (s.toks+1)) {s with toks:=s.toks+1+1}):wpAny (afY P w) A (call (.builtin "len") [.ref d]) Q E s:=by
 refine Calls.call_function_entry kind_len plain_len entry_len (args_len1 _) ?_;unfold agg.«len»;refine afX (m:=oneArg "len" _) (af2 ?_);refine afX (m:=callSpecial? (.ref d) (Str.ofString "__len__")) (ahj (name:=Str.ofString "__len__") hm.typeIs F.slot_dict_len
  (agQ F.slot_dict_len hm.typeIs F.entry_dict_len (F.args_dict_len_1 _) (Eo (knd:=knd) d hd) ⟨xs,hm,?_⟩))
 show wpAny _ _ _ _ _ {s with toks:=s.toks+1};refine afX (agp (af2 ?_));refine afX (agJ ?_);show wpAny _ _ (if ((xs.length:Nat):Int)<0 then _ else _) _ _ _;rw [if_neg (by omega)];show wpAny _ _ (if ((xs.length:Nat):Int)>=2^63 then _ else _) _ _ _;rw [if_neg (by omega)];exact afX (wpAny_mkInt (af2 ⟨_,rfl,h⟩))
end
section
variable {X:Cx}
theorem ET:jR X (.builtin "len") (λxs H Q=> ∃(a:Addr) (kvs:List (List Key×V)),xs= [V.ref a]/\H a=some (.dT kvs)/\Q (.int kvs.length) H):=by
 intro pins s σ H xs us Q I r h;obtain ⟨a,kvs,rfl,ha,q⟩:=h;obtain ⟨u,rfl,ru⟩:=vals1 r;cases ru;obtain ⟨z,hd,xs,rel,dd⟩:=Mm I.cN ha;have hl:kvs.length=xs.length:=Paired.length rel;refine IQ hd dd (by rw [af5] at z;omega) ?_;exact ⟨.int kvs.length,H,I.tok _,⟨_,by rw [hl]⟩,q⟩
theorem KT.WC {H:Hp} {k:List Key}: ∀{kvs:List (List Key×V)} {xs:List (List Key×Addr×Value)},KT H kvs xs->KT H (gO kvs k) (mo xs k):=by
 intro kvs xs r;unfold gO mo;induction r with
 |nil=>exact .nil
 | @cons p q ps qs h t ih=>
  obtain ⟨h1,h2,h3⟩:=h;by_cases e:p.1=k
  ·rw [br,br,if_neg (by simpa using e),if_neg (by rw [<-h1];simpa using e)];exact ih
  ·rw [br,br,if_pos (by simpa using e),if_pos (by rw [<-h1];simpa using e)];exact .cons ⟨h1,h2,h3⟩ ih
theorem SB {pins:List (Addr×Obj)} {σ:L2.St} {H:Hp} {s:afU} {a b:Addr} {kvs:List (List Key×V)} {k:List Key} {r:Value} {A:af3} {E:Value->afU->Prop} {Q:Value->afU->Prop} (hu:A.units+1<af7) (I:Inv X pins σ H s)
  (e:H a=some (.dT kvs)) (eb:H b=some (.tup (k.map kV))) (h1: ∀v,cr kvs k=some v->∀w' s',RelV v w'->Inv X pins σ (upd H a (.dT (gO kvs k))) s'->Q w' s') (h0:cr kvs k=none->∀s',Inv X pins σ H s'->Q r s'):
  wpAny (afY X.prog X.w) A (call (.builtin "dict.pop") [.ref a, .ref b,r]) Q E s:=by
 obtain ⟨z,hd,xs,rel,dd⟩:=Mm I.cN e;have hz:xs.length<=sizeLine:=by rw [<-Paired.length rel];exact z
 refine agQ eG dd.typeIs mi (lE _ _ _) (Y2 (knd:=agC (cG X.prog X.w)) (k:=k) hd)
  ⟨xs,agP hu,pM I.cN eb,dd,hz,λno tk=>?_,λp hp h' tk Jk sb=>?_⟩
 ·have:=rel.val k;rw [no] at this;exact h0 (Hs this) _ (I.tok _)
 ·have rv:=rel.val k;rw [hp] at rv;obtain ⟨v,hv,rv⟩:=Hr rv;refine h1 v hv _ _ rv ?_;obtain ⟨q,es,ep,hq,h2,h3,h4,_,h5⟩:=Jk;refine qK I (by rw [e];exact eZ) sb ⟨q,hq⟩ ⟨aV (Cj kvs k) z,hd,_,(KT.WC rel).keeps λc ys ec=>?_,q,es,ep,hq,h2,h3,h4,h5⟩;rw [bK (i8 ec e rfl)];exact ec
def NB (td ty tx:TE):TE:=λσ H Q=>td σ H λx H1=> ∃a,x= .ref a/\WS H1 a/\ty σ H1 λy H2=>tx σ H2 λz H3=> ∃kvs k b,H3 a=some (.dT kvs)/\y= .ref b/\H3 b=some (.tup (k.map kV))/\
 (∀v,cr kvs k=some v->Q v (upd H3 a (.dT (gO kvs k))))/\(cr kvs k=none->Q z H3)
theorem HC {o e f:af0} {apos eU:Pos} {td ty tx:TE} (hu:X.A.units+1<af7) (ho:PE X o td) (he:PE X e ty) (hf:PE X f tx) (m:M2 X o "pop" apos e f eU):PE X (.Call (.Attribute o "pop" apos) [e,f] [] eU) (NB td ty tx):=by
 intro pins s σ H Q I h;refine agR m.base m.Wv m.line g9 eG mN (dD (ho pins s σ H _ I h) λu s1 ⟨x,H1,I1,rx,a,ex,d,q1⟩=>?_);subst ex;obtain rfl:u=Value.ref a:=rx;obtain ⟨t1,t2,_⟩:=zH I1 d;refine ⟨t1,t2,?_⟩;rw [m.trees];refine Calls.callWith_builtin rfl (Calls.evalArgs_plain (Calls.spliced_cons (dD (he pins s1 σ H1 _ I1 q1) λiv s2 ⟨y,H2,I2,ry,q2⟩=>
  Calls.spliced_cons (dD (hf pins s2 σ H2 _ I2 q2) λfv s3 ⟨z,H3,I3,rz,kvs,k,b,ea,ey,eb,q3,q4⟩=>Calls.spliced_nil ?_))))
 subst ey;obtain rfl:iv=Value.ref b:=ry;exact SB hu I3 ea eb (λv l w' s4 u4 I4=>⟨v,_,I4,u4,q3 v l⟩) λl s4 I4=>⟨z,H3,I4,rz,q4 l⟩
end
def nM (v d:Addr):afV->Prop:=λh=>h.IsValuesView v d
def Ua (te:TE):TE:=λσ H Q=>te σ H λx H1=> ∃(d:Addr) (kvs:List (Key×V)),x= .ref d/\Rd H1 d (.dK kvs)/\∀v,H1 v=none->Q (.ref v) (upd H1 v (.ext (nM v d)))
section
variable {X:Cx}
theorem HB {e:af0} {te:TE} {apos eU:Pos} (he:PE X e te) (hbase:agn e "values" X.env (eval e X.env)=eval e X.env:=by rfl) (hline:(apos.endLine==eU.line)=true:=by rfl):
  PE X (.Call (.Attribute e "values" apos) [] [] eU) (Ua te):=by
 intro pins s σ H Q I h;refine agR (T:= "dict") (id:= "dict.values") hbase rfl hline F.plainAttrs_dict F.slot_dict_values F.type_dict_values (dD (he pins s σ H _ I h) λu s1 ⟨x,H1,I1,rx,d,kvs,ex,hd,q⟩=>?_);subst ex;obtain rfl:u=Value.ref d:=rx;obtain ⟨z,hs,vs,rel,dd⟩:=nF I1.cN hd;refine ⟨dd.typeIs,dd.mapOf.noDict,?_⟩;have hv:(s1.heap.push {cls:= .type "dict_values",data:= .fields #[.ref d]}).IsValuesView s1.heap.objs.size d:=⟨_,Heap.get?_push_size _ rfl,rfl,rfl⟩
 have fin:EP X pins σ Q (.ref s1.heap.objs.size) {s1 with heap:=s1.heap.push {cls:= .type "dict_values",data:= .fields #[.ref d]}}:=by
  refine ⟨.ref s1.heap.objs.size,upd H1 s1.heap.objs.size (.ext (nM s1.heap.objs.size d)),I1.laid (t':=s1.toks) (λb u e=>Heap.get?_push_of_some _ e) (ay _) ?_,rfl,q _ (I1.cN.fresh (ay _))⟩;refine ⟨hv,⟨_,Heap.get?_push_size _ rfl⟩,λh1 h2 z k=>?_⟩;obtain ⟨o,e1,e2⟩:=(show h1.IsValuesView _ d from z)
  exact ⟨o,k o e1,e2⟩
 show wpAny _ _ (ag0 eU (.builtin "dict.values") [.ref d] [] []) _ X.xe s1;exact method_meetsIn F.slot_dict_values F.entry_dict_values rfl (pX ⟨rfl,dd.typeIs,F.args_dict_values_1 _,_,meets_dict_values (cG X.prog X.w) d hs,⟨vs,dd⟩,fin⟩)
theorem Oo: ∀{kvs:List (Key×V)} {vs:List (Key×Value)},KV kvs vs->Vals (kvs.map (·.2)) (vs.map (·.2)):=by
 intro kvs vs r;unfold KV at r;induction r with
 |nil=>exact .nil
 |cons h t ih=>exact .cons h.2 ih
theorem r9 (hc:X.calm=true):jR X (.type "list") (λxs H Q=> ∃(v d:Addr) (kvs:List (Key×V)),xs= [V.ref v]/\H v=some (.ext (nM v d))/\Rd H d (.dK kvs)/\∀l,H l=none->Q (.ref l) (upd H l (.lst (kvs.map (·.2))))):=by
 intro pins s σ H xs us Q I r h;obtain ⟨v,d,kvs,rfl,hv,hd,q⟩:=h;rw [Vals.zn r];obtain ⟨z,hs,vs,rel,dd⟩:=nF I.cN hd;obtain ⟨ep,Wa⟩:=dd.dictAt;have hl:kvs.length=vs.length:=Paired.length rel;have view:s.heap.IsValuesView v d:=(show dR X.prog X.w H s.heap v (.ext (nM v d)) from I.cN v _ hv).1;refine PySem.W.kdl_call (PySem.W.kdl_values (knd:=cG X.prog X.w) (kvs:=vs) (ep:=ep)) (I.ok.hd hc) ⟨view,Wa⟩ (by omega) λh' tk SN c' hk hS' Lj=>?_;have e:SN.toList=vs.map (·.2):=PySem.W.kdl_vals_eq SN.toList (by rw [gU];exact Lj.1) λj u hu=>Lj.2 j u (by rw [<-gc];exact hu);have e2:SN=(vs.map (·.2)).toArray:=by rw [<-e]
 refine ⟨.ref s.heap.objs.size,upd H s.heap.objs.size (.lst (kvs.map (·.2))),I.laid (t':=tk) hk (ay _) ?_,rfl,q _ (I.cN.fresh (ay _))⟩;exact ⟨by rw [ab];exact z,vs.map (·.2),c',Oo rel,by rw [<-e2];exact hS'⟩
end
theorem nu: ∀{vs:List Value} {ns:List Int},vs.length=ns.length->(∀(j:Nat) (v:Value) (n:Int),vs[j]?=some v->ns[j]?=some n->∃t,v= .int n t)->IntsAre vs ns
 | [],[],_,_=> .nil
 | [],_::_,h,_=>by cases h
 |_::_,[],h,_=>by cases h
 |v::vs,n::ns,h,k=>by
  obtain ⟨t,rfl⟩:=k 0 v n rfl rfl;exact .cons n t (nu (by simpa using h) λj v n a b=>k (j+1) v n (by simpa using a) (by simpa using b))
def zD:Key->Int
 | .inl i=>i
 | .inr _=>0
section
variable {A:af3} {E:Value->afU->Prop} {s:afU} {Q:Value->afU->Prop}
theorem Hf {T:String} {r d:Addr} {n:Nat} {G:Nat->Value->Prop} {OK:afV->Prop} (K:PySem.W.KdlSrc P w T r d n G OK) (hh:A.handled=none) (cN:OK s.heap) (hn:n<64) {ns:List Int} (hlen:ns.length=n) (hG: ∀(j:Nat) (v:Value) (i:Int),G j v->ns[j]?=some i->∃t,v= .int i t)
  (h: ∀(h1 h2:afV) (tk:Nat) (out:Array Value) (ep:Nat) (xY:List Int),(∀b o,s.heap.get? b=some o->h1.get? b=some o)->(∀b o,h1.get? b=some o->h2.get? b=some o)->h2.get? h1.objs.size=some {cls:= .type "list",data:= .seq out ep}->IntsAre out.toList xY->xY.Perm ns->xY.Pairwise (· <= ·)->
   Q (.ref h1.objs.size) {s with heap:=h2,toks:=tk}):wpAny (afY P w) A (call (.builtin "sorted") [.ref r]) Q E s:=by
 have VO:n<=sizeLine:=NH hn;refine Calls.call_function_entry kind_sorted plain_sorted entry_sorted (args_sorted1 _) ?_;unfold agg.«sorted»;refine afX (m:=checkCount "sorted" 1 1 _) (af2 (afX (PySem.W.kdu_collect (A:=A.in1) K hh cN VO λh1 tk acc hk Lj=>?_)));have hl:acc.toList.length=n:=by rw [gU];exact Lj.1
 refine afX (wpAny_newList ?_ (by rw [hl];exact VO));have hI:IntsAre acc.toList ns:=nu (by omega) λj v i hv hi=>hG j v i (Lj.2 j v (by rw [<-gc];exact hv)) hi;have VJ:(h1.push (seqObj "list" acc.toList.toArray 0)).get? h1.objs.size=some (seqObj "list" acc.toList.toArray 0):=Heap.get?_push_size _ rfl;have QY:=list_sort_tree (prog:=P) (w:=w) (A:=A.in1.in1) (E:=E) (s:={s with heap:=h1.push (seqObj "list" acc.toList.toArray 0),toks:=tk}) VJ hI (by rw [hl];exact hn)
  (P:=λfin s'=> ∃v,fin= .done (.ret v)/\Q (.ref h1.objs.size) s') λout xY a1 a2 a3=>⟨_,rfl,by
   obtain ⟨ep,he⟩:=sortedHeap_at (out:=out) VJ;refine h h1 _ tk out ep xY hk (λb o e=>?_) he a1 a2 a3;have hb:=Heap.lt_size e;rw [sortedHeap_old (bH hb) (by rw [size_push'];exact lI hb),Heap.get?_push_ne _ _ _ (bH hb)];exact e⟩
 refine afX (agp (ahk slot_list_sort ⟨_,VJ,rfl⟩ entry_list_sort ?_ (args_list_sort _)));refine wpAny_mono QY (λfin s' ⟨v,e,q⟩=>⟨v,e,af2 ⟨_,rfl,q⟩⟩) λ_ _ e=>e
end
section
variable {X:Cx}
theorem EN (hc:X.calm=true):jR X (.builtin "sorted") (λvs H Q=> ∃(d:Addr) (kvs:List (Key×V)),vs= [V.ref d]/\Rd H d (.dK kvs)/\kvs.length<64/\(∀x∈kvs, ∃i:Int,x.1=az i)/\
  ∀(xY:List Int) (p:Addr),xY.Perm (kvs.map λx=>zD x.1)->xY.Pairwise (· <= ·)->H p=none->Q (.ref p) (upd H p (.lst (xY.map V.int)))):=by
 intro pins s σ H vs us Q I r h;obtain ⟨d,kvs,rfl,hd,h64,hi,q⟩:=h;rw [Vals.zn r];obtain ⟨z,hs,xs,rel,dd⟩:=nF I.cN hd;obtain ⟨ep,Wa⟩:=dd.dictAt;have hl:kvs.length=xs.length:=Paired.length rel;have hk:=rel.keys;have Oz:(kvs.map λx=>zD x.1)=xs.map λx=>zD x.1:=by
  have:=congrArg (List.map zD) hk;rw [bi,bi] at this;exact this
 refine Hf (PySem.W.kdl_dict (knd:=cG X.prog X.w) (kvs:=xs) (ep:=ep) hs) (I.ok.hd hc) Wa (by omega) (ns:=kvs.map λx=>zD x.1) (by rw [ab];exact hl) (λj v i hg hj=>?_)
  λh1 h2 tk out ep xY k1 k2 e a1 a2 a3=>?_
 ·obtain ⟨k,x,hx,Ts⟩:=hg;rw [Oz,bp,hx] at hj;have e:zD k=i:=by simpa using hj
  obtain ⟨y,hy,hyk⟩: ∃y∈kvs,y.1=k:=by
   have hm:k∈xs.map (·.1):=aj.mpr ⟨(k,x),aH hx,rfl⟩;rw [<-hk] at hm;obtain ⟨y,hy,e⟩:=aj.mp hm;exact ⟨y,hy,e⟩
  obtain ⟨i',Ih⟩:=hi y hy;rw [hyk] at Ih;subst Ih;have e:i'=i:=e;subst e;rcases dM (show qG (az i') v=true from Ts) with ⟨a,t,e1,e2⟩|⟨x,t,e1,_⟩
  ·cases e1;exact ⟨t,e2⟩
  ·cases e1
 ·have I1:Inv X pins σ H {s with heap:=h1,toks:=tk}:=I.kept (t':=tk) k1;have hlen:(xY.map V.int).length<=sizeLine:=by rw [ab,a2.length_eq,ab];exact z
  exact ⟨.ref _,upd H h1.objs.size (.lst (xY.map V.int)),I1.laid (t':=tk) k2 (ay _) ⟨hlen,out.toList,ep,qg a1,e⟩,rfl,q xY _ a2 a3 (I1.cN.fresh (ay _))⟩
end
def vI:V->Int
 | .int i=>i
 |_=>0
def rowAt (H:Hp) (p:Addr):List Int:=match H p with
 |some (.tup xs)=>xs.map vI
 |_=> []
theorem u6 {H:Hp} {p:Addr} {r:List Int} (h:H p=some (.tup (r.map V.int))):rowAt H p=r:=by
 unfold rowAt;rw [h];show (r.map V.int).map vI=r;rw [bi];exact (bO λ_ _=>rfl).trans (GT r)
def adr:Value->Addr
 | .ref a=>a
 |_=>0
theorem BK: ∀(a b:List Int),mT itemOrd (a.map az) (b.map az)=rowLess a b
 | [],[]=>rfl
 | [],_::_=>rfl
 |_::_,[]=>rfl
 |a::r,b::s=>by
  show (decide (a<b)||(!decide (b<a)&&mT itemOrd (r.map az) (s.map az)))=(decide (a<b)||(decide (a=b)&&rowLess r s))
  rw [BK r s];by_cases h1:a<b
  ·simp [h1]
  ·by_cases h2:b<a
   ·have: ¬a=b:=by omega
    simp [h1,h2,this]
   ·have:a=b:=by omega
    simp [this]
theorem oV: ∀{vs:List Value} {ns:List Int},IntsAre vs ns->∀i,tupItems (λ_=>false) i vs=some (ns.map az)
 |_,_, .nil,_=>rfl
 |_,_, .cons n t h,i=>by
  show (if false=true then none else (tupItems (λ_=>false) (i+1) _).map (az n:: ·))=_;rw [if_neg aI,oV h];rfl
section
variable {X:Cx}
theorem wc:jR X (.builtin "sorted") (λvs H Q=> ∃(a:Addr) (ps:List Addr),vs= [V.ref a]/\iL X.K H a (ps.map V.ref)/\(∀p∈ps, ∃r:List Int,r≠ []/\H p=some (.tup (r.map V.int)))/\
  ∀(rf:List Addr) (q:Addr),rf.Perm ps->(rf.map (rowAt H)).Pairwise (λa b=>rowLess b a=false)->H q=none->Q (.ref q) (upd H q (.lst (rf.map V.ref)))):=by
 intro pins s σ H vs us Q I r h;obtain ⟨a,ps,rfl,hs,hp,q⟩:=h;rw [Vals.zn r];obtain ⟨its,rv,hl,hz⟩:=I.list hs;have aaC: ∀{ps:List Addr} {its:List Value},Vals (ps.map V.ref) its->its=ps.map Value.ref:=by
  intro ps;induction ps with
  |nil=>intro its rv;cases rv;rfl
  |cons p ps ih=>intro its rv;cases rv with|cons r1 r2=>rw [ih r2];cases r1;rfl
 have e:=aaC rv;subst e;have one: ∀p∈ps, ∃(o:Obj) (t:List Value) (n:Nat),s.heap.get? p=some o/\o.cls= .type "tuple"/\o.data= .seq t.toArray n/\IntsAre t (rowAt H p)/\rowAt H p≠ []:=λp Ez=>by
  obtain ⟨r,hr,hh⟩:=hp p Ez;obtain ⟨_,t,rt,o,h1,h2,n,h3⟩:=(show dR X.prog X.w H s.heap p (.tup (r.map V.int)) from I.cN p _ hh)
  rw [u6 hh];exact ⟨o,t,n,h1,h2,h3,intsAre_of rt,hr⟩
 have key: ∀p∈ps,G.tupKeyC s.heap (λ_=>false) (.ref p)=some ((rowAt H p).map az):=λp Ez=>by
  obtain ⟨o,t,n,h1,h2,h3,h4,_⟩:=one p Ez;have e1:G.isTupObj s.heap (.ref p)=true:=by
   show (match s.heap.get? p with|some o=>(match o.cls with| .type n=>n== "tuple" |_=>false)|none=>false)=true;rw [h1];show (match o.cls with| .type n=>n== "tuple" |_=>false)=true;rw [h2];rfl
  unfold G.tupKeyC;rw [if_pos e1];show (match s.heap.get? p with|some o=>(match o.data with| .seq xs _=>tupItems (λ_=>false) 0 xs.toList|_=>none)|none=>none)=_;rw [h1];show (match o.data with| .seq xs _=>tupItems (λ_=>false) 0 xs.toList|_=>none)=_;rw [h3];exact oV h4 0
 have uD: ∀{l:List Addr},(∀p∈l,p∈ps)->∃fs,TupsOf s.heap (λ_=>false) (l.map Value.ref) fs:=by
  intro l;induction l with
  |nil=>intro _;exact ⟨[], .nil⟩
  |cons p l ih=>
   intro hm;obtain ⟨fs,hf⟩:=ih λx hx=>hm x (aE _ hx);obtain ⟨o,t,n,h1,h2,h3,h4,h5⟩:=one p (hm p aN);generalize rowAt H p=rr at h4 h5;cases h4 with
   |nil=>exact absurd rfl h5
   |cons k tk h6=>exact ⟨_, .cons ⟨p,o,_,n,rfl,h1,h2,h3,by simp,λ_=>⟨k,tk,rfl⟩,λz=>by cases z⟩ hf⟩
 obtain ⟨fs,hf⟩:=uD (l:=ps) λp h=>h;have hlen:(ps.map Value.ref).length<=sizeLine:=by rw [ab] at hz⊢;exact hz
 have VZ: ∀v,v∈ps.map Value.ref->∃l,G.tupKeyC s.heap (λ_=>false) v=some l:=λv hv=>by
  obtain ⟨p,Ez,rfl⟩:=aj.mp hv;exact ⟨_,key p Ez⟩
 refine G.sorted_tups hl.isList hf VZ hlen λwH a1 a2 _=>?_;have pl:(arrOf wH).toList.Perm ((ps.map Value.ref).zip (ps.map Value.ref)):=by
  have:=Array.perm_iff_toList_perm.mp a1;rw [pairsOf_toList] at this;exact this
 have ez:(ps.map Value.ref).zip (ps.map Value.ref)=ps.map λp=>(Value.ref p,Value.ref p):=by
  rw [List.zip_map];have: ∀l:List Addr,l.zip l=l.map λp=>(p,p):=λl=>by induction l with|nil=>rfl|cons x l ih=>rw [rp,ih];rfl
  rw [this,bi];rfl
 rw [ez] at pl;let rf:List Addr:=(arrOf wH).toList.map λp=>adr p.1;have pp:rf.Perm ps:=by
  have:=pl.map λp:Value×Value=>adr p.1;rw [bi] at this;refine this.trans (i0 ?_);exact (bO λ_ _=>rfl).trans (GT ps)
 have el:(arrOf wH).toList=rf.map λp=>(Value.ref p,Value.ref p):=by
  show _=((arrOf wH).toList.map λp=>adr p.1).map λp=>(Value.ref p,Value.ref p)
  rw [bi];refine ((bO λx hx=>?_).trans (GT _)).symm;obtain ⟨p,_,rfl⟩:=aj.mp (pl.mem_iff.mp hx);rfl
 have eo:((arrOf wH).map (·.2)).toList=rf.map Value.ref:=by
  rw [Array.toList_map,el,bi];rfl
 have sz:(arrOf wH).size=(pairsOf (ps.map Value.ref)).size:=a1.size_eq;have hks:KeysOf (G.tupKindC s.heap λ_=>false) (arrOf wH):=λp Ez=>by
  obtain ⟨x,hx,rfl⟩:=aj.mp (pl.mem_iff.mp Ez);exact ⟨_,key x hx⟩
 have pw:=keyLe_of_sorted hks (by rw [sz];exact a2);rw [el,dw] at pw;have pr:(rf.map (rowAt H)).Pairwise λa b=>rowLess b a=false:=by
  rw [dw];refine pw.imp_of_mem λ{x y} hx hy ⟨k1,k2,e1,e2,e3⟩=>?_;have hx:=pp.mem_iff.mp hx;have hy:=pp.mem_iff.mp hy;have e1:G.tupKeyC s.heap (λ_=>false) (.ref x)=some k1:=e1;have e2:G.tupKeyC s.heap (λ_=>false) (.ref y)=some k2:=e2;rw [key x hx] at e1;rw [key y hy] at e2;cases e1;cases e2;have e3:mT itemOrd ((rowAt H y).map az) ((rowAt H x).map az)=false:=e3;rw [BK] at e3;exact e3
 obtain ⟨ep,he⟩:=sortedAll_at s.heap (ps.map Value.ref) ((arrOf wH).map (·.2));have vr: ∀l:List Addr,Vals (l.map V.ref) (l.map Value.ref):=λl=>by induction l with|nil=>exact .nil|cons x l ih=>exact .cons rfl ih
 refine ⟨.ref _,upd H (s.heap.objs.size+1) (.lst (rf.map V.ref)),I.laid (t':=s.toks) (λ_ _=>sortedAll_old) (lJ _) ⟨?_,rf.map Value.ref,ep,vr rf,?_⟩,rfl,q rf _ pp pr (I.cN.fresh (lJ _))⟩
 ·rw [ab,pp.length_eq];rw [ab] at hz;exact hz
 ·rw [he, <-eo]
end
end Lf
namespace Lf
def KD (P:afZ) (w:afW) (K:aa) (a:Addr) (kvs:List (Key×V)):Prop:=(a==agb)=false/\∃o vs,K.lookup a=some o/\KV kvs vs/\o.IsDictOf (cG P w) vs
section
variable {X:Cx} {pins:List (Addr×Obj)} {σ:L2.St} {H:Hp} {s:afU}
theorem KD.at {a:Addr} {kvs:List (Key×V)} (h:KD X.prog X.w X.K a kvs) (I:Inv X pins σ H s):(a==agb)=false/\∃vs,KV kvs vs/\s.heap.DictOf (cG X.prog X.w) a vs:=by
 obtain ⟨h0,o,vs,h1,h2,es,ep,h3,h4,h5⟩:=h;exact ⟨h0,vs,h2,o,es,ep,I.FZ a o h1,h3,h4,h5⟩
end
def Nz (P:afZ) (w:afW) (K:aa) (ty td:TE):TE:=λσ H Q=>ty σ H λy H1=>td σ H1 λx H2=> ∃(a:Addr) (kvs:List (Key×V)) (k:Key),x= .ref a/\KD P w K a kvs/\y=kV k/\Q (.bl (!(cr kvs k).isSome)) H2
def Ui (P:afZ) (w:afW) (K:aa) (td ty:TE):TE:=λσ H Q=>td σ H λx H1=>ty σ H1 λy H2=> ∃(a:Addr) (kvs:List (Key×V)) (k:Key) (v:V),x= .ref a/\KD P w K a kvs/\y=kV k/\cr kvs k=some v/\Q v H2
section
variable {X:Cx} {i o:af0} {ty td:TE} {pos:Pos}
theorem vg (hi:PE X i ty) (ho:PE X o td):PC X .NotIn i o (Nz X.prog X.w X.K ty td):=by
 intro pins s σ H Q I h;refine dD (hi pins s σ H _ I h) λiv s1 ⟨y,H1,I1,ry,q1⟩=>dD (ho pins s1 σ H1 _ I1 q1) λu s2 ⟨x,H2,I2,rx,a,kvs,k,ex,g,ey,q2⟩=>?_;subst ex ey;obtain rfl:u=Value.ref a:=rx;obtain ⟨hd,vs,rel,dd⟩:=g.at I2;refine wpAny_notIn_of (nq ry) hd dd.mapOf ?_;rw [<-(rel.val k).jw];exact ⟨.bl _,H2,I2.tok _,rfl,q2⟩
theorem Kr (ho:PE X o td) (hi:PE X i ty) (hs:SS i):PE X (.Subscript o i pos) (Ui X.prog X.w X.K td ty):=by
 intro pins s σ H Q I h;refine Fc wQ.lookup hs (dD (ho pins s σ H _ I h) λu s1 ⟨x,H1,I1,rx,q1⟩=>dD (hi pins s1 σ H1 _ I1 q1) λiv s2 ⟨y,H2,I2,ry,a,kvs,k,v,ex,g,ey,l,q2⟩=>?_);subst ex ey;obtain rfl:u=Value.ref a:=rx;obtain ⟨hd,vs,rel,dd⟩:=g.at I2;obtain ⟨w',hw,u4⟩:=jY.some_of (v:=v) (o:=agq vs k) (by rw [<-l];exact rel.val k);exact ⟨dd.typeIs,wpAny_getItem_of (nq ry) dd.mapOf hw ⟨v,H2,I2.tok _,u4,q2⟩⟩
end
def TN (P:afZ) (w:afW) (K:aa) (mg:Str->Option Value) (base:afV) (k:Nat) (n:Nat) (f:V) (sp:Sp):Prop:= ∃(a:Addr) (fd:agd) (ps:List Str),f= .ref a/\ps.length=n/\eA K (.ref a)=true/\Binds K fd ps []/\jZ P w K mg base E6 k a fd ps sp
theorem Fn.v {P:afZ} {w:afW} {K:aa} {mg:Str->Option Value} {base:afV} {x:Str} {j k:Nat} {ps:List Str} {sp:Sp} (G:Fn P w K mg base x j ps sp) (h:j<=k): ∃a,mg x=some (.ref a)/\TN P w K mg base k ps.length (.ref a) sp:=by
 obtain ⟨f,fd,hm,kp,hb,F⟩:=G;exact ⟨f,hm,f,fd,ps,rfl,rfl,kp,hb,F.mono h⟩
section
variable {X:Cx} {f e:af0} {es:List af0} {te:TE} {t:TA} {pos:Pos}
theorem pcv {k n:Nat} (hr:gP k X.A) (hf:PE X f te) (ha:PA X (e::es) t) (hev:eval (.Call f (e::es) [] pos) X.env=(do ag0 pos (<-eval f X.env) [] (af9 pos (af1 (e::es) X.env)) (agx pos (agy [] X.env))):=by rfl)
  (he:af1 (e::es) X.env=(false,eval e X.env)::af1 es X.env:=by rfl) (hpl:(af9 pos (af1 es X.env)).any (·.1)=false:=by rfl):
  PE X (.Call f (e::es) [] pos) (λσ H Q=>te σ H λg H1=> ∃sp,TN X.prog X.w X.K X.mg X.base k n g sp/\t σ H1 λvs H2=>sp vs H2 Q E0):=by
 intro pins s σ H Q I h;refine Yl (dD (hf pins s σ H _ I h) λu s1 ⟨g,H1,I1,rg,sp,hv,q⟩=>?_) hev;obtain ⟨a,fd,ps,rfl,_,kp,hb,F⟩:=hv;obtain rfl:u=Value.ref a:=rg;refine pY (h₀:=X.base) I.ok.mod.Vh kp (dD (ha pos pins s1 σ H1 _ I1 q) λus s2 ⟨vs,H2,I2,r,q2⟩=>⟨I2.FZ,?_⟩) he hpl;have q2:sp (vs++ []) H2 Q E0:=by rw [dc];exact q2
 exact J6 F hr hb .nil FL I2 r q2
end
end Lf
namespace Lf
structure Bl (mg:Str->Option Value):Prop where
 len:mg "len" =none
 max:mg "max" =none
 min:mg "min" =none
 sum:mg "sum" =none
 all:mg "all" =none
 list:mg "list" =none
 sorted:mg "sorted" =none
 range:mg "range" =none
 zip:mg "zip" =none
 enumerate:mg "enumerate" =none
structure Cs (mg:Str->Option Value):Prop where
 GROUPS:Ci mg "GROUPS" (8)
 WR:Ci mg "KINDS" (5)
 Al:Ci mg "OUT_OF_RANGE" (-2)
 EZ:Ci mg "NO_JOURNEY" (-3)
 sO:Ci mg "NO_SEGMENTS" (-4)
 Pn:Ci mg "NO_FARE" (-5)
 sk:Ci mg "NOT_RIGHT" (-6)
 qQ:Ci mg "NO_PRICE" (-7)
 SW:Ci mg "FULL" (-8)
 E2:Ci mg "MOST_FARES" (60)
 qR:Ci mg "MOST_AMOUNTS" (40)
 mx:Ci mg "SEGMENT_NUMBERS" (5)
 wm:Ci mg "SATURDAY_DIGIT" (5)
 Da:Ci mg "ANY_CARRIER" (-1)
 Pk:Ci mg "ONE_WAY" (0)
 nU:Ci mg "HALF_OF_RETURN" (1)
 wt:Ci mg "NEAR_ENDS_ONLY" (1)
 xy:Ci mg "FAR_ENDS_ONLY" (2)
 oX:Ci mg "THREE_NUMBERS" (3)
 kF:Ci mg "NOTHING_WRONG" (0)
 IU:Ci mg "WRONG_CUT" (1)
 Am:Ci mg "NO_SUCH_FARE" (2)
 xw:Ci mg "WRONG_PARTNER" (3)
 E1:Ci mg "NOT_SINGLY" (4)
 IZ:Ci mg "NO_RETURN" (5)
 wq:Ci mg "NO_PARTNER" (-1)
 My:Ci mg "NO_TOTAL" (-1)
 C8:Ci mg "FARES_PLACE" (16)
structure Ds (K:aa) (mg:Str->Option Value):Prop where
 Kj:Dn K mg "put_fare" (top 18) ["house","numbers","row"]
 G9:Dn K mg "take_fare" (top 19) ["house","numbers","row"]
 tu:Dn K mg "put_combination" (top 20) ["house","numbers","row"]
 D0:Dn K mg "put_amount" (top 21) ["amounts","name","amount"]
 Hw:Dn K mg "put_floor" (top 22) ["house","numbers","row"]
 N0:Dn K mg "put_tax" (top 23) ["house","numbers","row"]
 Be:Dn K mg "put_percent" (top 24) ["house","numbers","row"]
 Kh:Dn K mg "put_unit" (top 25) ["house","numbers","row"]
 KW:Dn K mg "is_right" (top 26) ["now","segments"]
 Bg:Dn K mg "put_journey" (top 27) ["house","numbers","row"]
 Ht:Dn K mg "read_call" (top 32) ["calls","begin"]
 EX:Dn K mg "are_within" (top 33) ["numbers","ranges"]
 zE:Dn K mg "is_row_right" (top 34) ["row","fewest","most","ranges"]
 BS:Dn K mg "is_in_range" (top 35) ["place","numbers","row"]
 jI:Dn K mg "greatest_floor" (top 43) ["floors","segments"]
 Ij:Dn K mg "has_digit" (top 44) ["mask","digit"]
 uH:Dn K mg "takes_segments" (top 45) ["fare","segments"]
 suits:Dn K mg "suits" (top 46) ["fare","component","kind"]
 HP:Dn K mg "leads_out" (top 47) ["fare","component"]
 Es:Dn K mg "leads_home" (top 48) ["fare","component"]
 Cd:Dn K mg "fits_singly" (top 49) ["fare","component","kind"]
 L4:Dn K mg "fits_out" (top 50) ["fare","component","kind"]
 IE:Dn K mg "fits_home" (top 51) ["fare","component","kind"]
 N9:Dn K mg "pays" (top 52) ["house","kind","fare","component"]
 HD:Dn K mg "offers_by" (top 53) ["house","kind","component","fares"]
 Ce:Dn K mg "find_offers" (top 54) ["house","kind"]
 xp:Dn K mg "digits_needed" (top 58) ["out","home"]
 Af:Dn K mg "allows" (top 59) ["fare","needed","stay"]
 B9:Dn K mg "go_together" (top 60) ["house","group_out","group_home"]
 BI:Dn K mg "make_return" (top 61) ["house","kind","fare_out","out","fare_home","home"]
 vE:Dn K mg "least_by_group" (top 62) ["offers","needed","stay"]
 zB:Dn K mg "least_return" (top 63) ["house","out_offers","home_offers"]
 y3:Dn K mg "split_threes" (top 72) ["row"]
 zF:Dn K mg "is_cut_right" (top 73) ["house","threes"]
 tK:Dn K mg "are_fares_there" (top 74) ["house","threes"]
 rR:Dn K mg "is_partner_right" (top 75) ["threes","place"]
 pR:Dn K mg "are_partners_right" (top 76) ["threes"]
 tI:Dn K mg "find_components" (top 77) ["house","threes"]
 vZ:Dn K mg "do_singles_fit" (top 78) ["house","kind","threes","components"]
 wa:Dn K mg "do_returns_fit" (top 79) ["house","kind","threes","components"]
 EI:Dn K mg "find_wrong" (top 80) ["house","kind","threes"]
 JC:Dn K mg "total_of" (top 81) ["house","kind","threes"]
 zZ:Dn K mg "check_threes" (top 82) ["house","kind","row"]
 uT:Dn K mg "single_choices" (top 86) ["offers"]
 va:Dn K mg "return_choices" (top 87) ["house","out_offers","home_offers"]
 zS:Dn K mg "find_singles" (top 88) ["house","offered"]
 zT:Dn K mg "find_choices" (top 89) ["house","kind"]
 zx:Dn K mg "lowest_digit" (top 90) ["mask"]
 wg:Dn K mg "choices_within" (top 91) ["choices","mask"]
 JE:Dn K mg "sum_with" (top 93) ["choice","sums","mask"]
 Ep:Dn K mg "least_sums" (top 94) ["choices"]
 xj:Dn K mg "least_choices" (top 95) ["choices","sums","mask"]
 yT:Dn K mg "write_threes" (top 96) ["parts"]
 zy:Dn K mg "least_threes" (top 97) ["choices","sums"]
 xh:Dn K mg "least_pricing" (top 98) ["house","kind"]
 xb:Dn K mg "prefix_totals" (top 99) ["choices"]
 lX:Dn K mg "least_totals_by_prefix" (top 100) ["house","kind"]
 BN:Dn K mg "least_total" (top 101) ["house","kind"]
 qF:Dn K mg "least_total_alone" (top 102) ["house","kind"]
 EO:Dn K mg "count_ways" (top 103) ["house","kind"]
 DI:Dn K mg "tell_price" (top 106) ["house","numbers","row"]
 xk:Dn K mg "journey_taxes" (top 107) ["house"]
 DJ:Dn K mg "tell_party" (top 108) ["house","numbers","row"]
 zG:Dn K mg "is_component" (top 109) ["house","first","last"]
 vp:Dn K mg "offers_between" (top 110) ["house","kind","first","last"]
 yW:Dn K mg "tell_singles" (top 111) ["house","numbers","row"]
 lj:Dn K mg "are_components_in_order" (top 112) ["house","first","last","second_first","second_last"]
 G7:Dn K mg "tell_pair" (top 113) ["house","numbers","row"]
 DM:Dn K mg "tell_check" (top 114) ["house","numbers","row"]
 DN:Dn K mg "tell_alone" (top 115) ["house","numbers","row"]
 DL:Dn K mg "tell_count" (top 116) ["house","numbers","row"]
 w6:Dn K mg "tell_prefixes" (top 117) ["house","numbers","row"]
 DK:Dn K mg "tell_fares" (top 118) ["house","numbers","row"]
 yX:Dn K mg "tell_journey" (top 119) ["house","numbers","row"]
 answer:Dn K mg "answer" (top 123) ["house","place","numbers","row"]
 answers:Dn K mg "answers" (top 124) ["calls"]
structure CA where
 Fare:Addr
 fW:Addr
 Journey:Addr
 iX:Addr
 cK:Addr
 im:Addr
 Choice:Addr
structure Ks (K:aa) (mg:Str->Option Value) (t:CA):Prop where
 Fare:Dc K mg "Fare" "Fare.__init__" (inClass (top 3) 0) t.Fare ["self","numbers"]
 fW:Dc K mg "Segment" "Segment.__init__" (inClass (top 4) 0) t.fW ["self","numbers"]
 Journey:Dc K mg "Journey" "Journey.__init__" (inClass (top 5) 0) t.Journey ["self","now","segments"]
 iX:Dc K mg "House" "House.__init__" (inClass (top 6) 0) t.iX ["self"]
 cK:Dc K mg "Component" "Component.__init__" (inClass (top 41) 0) t.cK ["self","house","first","last"]
 im:Dc K mg "Offers" "Offers.__init__" (inClass (top 42) 0) t.im ["self","house","kind","component"]
 Choice:Dc K mg "Choice" "Choice.__init__" (inClass (top 85) 0) t.Choice ["self","paid","parts"]
 qU:bG K t.Fare "numbers"
 C6:bG K t.Fare "key"
 qW:bG K t.Fare "carrier"
 yL:bG K t.Fare "near"
 C7:bG K t.Fare "far"
 C5:bG K t.Fare "way"
 sW:bG K t.Fare "amount"
 qV:bG K t.Fare "classes"
 o0:bG K t.Fare "weekdays"
 mz:bG K t.Fare "days_ahead"
 my:bG K t.Fare "least_stay"
 nW:bG K t.Fare "most_stay"
 wA:bG K t.Fare "group"
 nV:bG K t.Fare "open_ends"
 wz:bG K t.Fare "kinds"
 jP:bG K t.Fare "most_segments"
 mq:bG K t.fW "numbers"
 mv:bG K t.fW "carrier"
 nP:bG K t.fW "origin"
 nO:bG K t.fW "target"
 sK:bG K t.fW "day"
 mw:bG K t.fW "booking"
 sP:bG K t.Journey "now"
 lx:bG K t.Journey "segments"
 sV:bG K t.iX "fares"
 jO:bG K t.iX "together"
 qT:bG K t.iX "floors"
 sU:bG K t.iX "taxes"
 nR:bG K t.iX "percents"
 wy:bG K t.iX "unit"
 oZ:bG K t.iX "journey"
 mE:bG K t.cK "first"
 nY:bG K t.cK "last"
 dC:bG K t.cK "segments"
 lB:bG K t.cK "origin"
 lA:bG K t.cK "target"
 kG:bG K t.cK "day"
 jg:bG K t.cK "days_left"
 mD:bG K t.cK "floor"
 lm:bG K t.im "component"
 nQ:bG K t.im "singles"
 sM:bG K t.im "outs"
 qP:bG K t.im "homes"
 sX:bG K t.Choice "paid"
 qX:bG K t.Choice "parts"
 iN:bG K t.Choice "covers"
def tL:List (List (Int×Int)):= [[(0,999999999),(-1,675),(0,17575),(0,17575),(0,1),(0,1000000000),(0,67108863),(0,127),(0,999),(0,999),(0,999),(0,7),(0,3),(0,31),(1,8)],[(0,999999999)],[(0,7),(0,7),(0,1)],[(0,17575),(0,17575),(0,1000000000)],[(0,17575),(0,1000000000)],[(0,4),(0,200)],[(1,10000)],[(0,36524)],[(0,4)],[],[(0,4),(1,8),(1,8)],[(0,4),(1,8),(1,8),(1,8),(1,8)],[(0,4)],[(0,4)],[(0,4)],[(0,4)],[],[]]
def wu (K:aa) (a:Addr) (xs:List V):Prop:= ∃(o:Obj) (its:Array Value) (n:Nat),K.lookup a=some o/\o.cls= .type "tuple"/\o.data= .seq its n/\its.size<=sizeLine/\Vals xs its.toList
theorem wu.sq {K:aa} {H:Hp} {a:Addr} {xs:List V} (h:wu K a xs):Ah K H a xs:= .inr h
def xF (K:aa):Value->Option (List Value)
 | .ref a=>match K.lookup a with
  |some ⟨c,_, .seq its _,_⟩=>if c== .type "tuple" &&decide (its.size<=100) then some its.toList else none
  |_=>none
 |_=>none
def allOf {α β:Type} (f:α->Option β):List α->Option (List β)
 | []=>some []
 |a::l=>match f a,allOf f l with
  |some b,some r=>some (b::r)
  |_,_=>none
def Kb (K:aa) (v:Value):Option (Int×Int):=match xF K v with
 |some [.int a _, .int b _]=>some (a,b)
 |_=>none
def zj (K:aa) (v:Value):Option (List (Int×Int)):=match xF K v with
 |some l=>allOf (Kb K) l
 |none=>none
def vq (K:aa) (v:Value):Option (List (List (Int×Int))):=match xF K v with
 |some l=>allOf (zj K) l
 |none=>none
def vS (K:aa) (v:Value):Option (Int×Int×List (Int×Int)):=match xF K v with
 |some [.int a _, .int b _,r]=>match zj K r with
  |some l=>some (a,b,l)
  |none=>none
 |_=>none
theorem ql {K:aa} {v:Value} {l:List Value} (h:xF K v=some l): ∃(a:Addr) (o:Obj) (its:Array Value) (n:Nat),v= .ref a/\K.lookup a=some o/\o.cls= .type "tuple"/\o.data= .seq its n/\its.size<=sizeLine/\its.toList=l:=by
 unfold xF at h;split at h
 ·rename_i a
  split at h
  ·rename_i c d its n sl q
   split at h
   ·rename_i g
    simp only [aU,beq_iff_eq,decide_eq_true_eq] at g;cases h;exact ⟨a,_,its,n,rfl,q,g.1,rfl,aV g.2 (by decide),rfl⟩
   ·cases h
  ·cases h
 ·cases h
theorem sh {α β:Type} {f:α->Option β}: ∀{l:List α} {r:List β},allOf f l=some r->l.length=r.length/\∀(i:Nat) (a:α) (b:β),l[i]?=some a->r[i]?=some b->f a=some b
 | [],r,h=>by
  cases h;exact ⟨rfl,λi a b h=>by simp at h⟩
 |a::l,r,h=>by
  unfold allOf at h;split at h
  ·rename_i b r' e1 e2
   cases h;obtain ⟨h1,h2⟩:=sh e2;refine ⟨by simp [h1],λi x y hx hy=>?_⟩;cases i with
   |zero=>
    have e:a=x:=by simpa using hx
    have e':b=y:=by simpa using hy
    rw [<-e, <-e'];exact e1
   |succ i=>exact h2 i x y (by simpa using hx) (by simpa using hy)
  ·cases h
def yy (K:aa) (v:V) (r:List (Int×Int)):Prop:= ∃(a:Addr) (ps:List Addr),v= .ref a/\wu K a (ps.map V.ref)/\bQ (λp x=>wu K p [.int x.1, .int x.2]) ps r
theorem A8 {K:aa} {v:Value} {x:Int×Int} (h:Kb K v=some x): ∃a,v= .ref a/\wu K a [.int x.1, .int x.2]:=by
 unfold Kb at h;split at h
 ·rename_i p a t b u q
  cases h;obtain ⟨ad,o,its,n,rfl,h1,h2,h3,h4,h5⟩:=ql q;exact ⟨ad,rfl,o,its,n,h1,h2,h3,h4,by rw [h5];exact .cons ⟨t,rfl⟩ (.cons ⟨u,rfl⟩ .nil)⟩
 ·cases h
theorem zm {R:Addr->Prop}: ∀{l:List Value},(∀v∈l, ∃a,v= .ref a/\R a)->∃ps:List Addr,l=ps.map Value.ref
 | [],_=>⟨[],rfl⟩
 |v::l,h=>by
  obtain ⟨a,rfl,_⟩:=h v aN;obtain ⟨ps,rfl⟩:=zm (l:=l) λx hx=>h x (aE _ hx);exact ⟨a::ps,rfl⟩
theorem E9: ∀l:List Addr,Vals (l.map V.ref) (l.map Value.ref)
 | []=> .nil
 |_::l=> .cons rfl (E9 l)
theorem rH {K:aa} {v:Value} {r:List (Int×Int)} (h:zj K v=some r): ∃a,v= .ref a/\yy K (.ref a) r:=by
 unfold zj at h;split at h
 ·rename_i l q
  obtain ⟨ad,o,its,n,rfl,h1,h2,h3,h4,h5⟩:=ql q;obtain ⟨g1,g2⟩:=sh h;have hall: ∀v∈l, ∃a,v= .ref a/\True:=λv hv=>by
   obtain ⟨i,hi⟩:=gG hv;have hl:=(aJ.mp hi).1;obtain ⟨a,e,_⟩:=A8 (g2 i v _ hi (ao (by omega)));exact ⟨a,e,trivial⟩
  obtain ⟨ps,rfl⟩:=zm hall;rw [ab] at g1;refine ⟨ad,rfl,ad,ps,rfl,⟨o,its,n,h1,h2,h3,h4,by rw [h5];exact E9 ps⟩,g1,λi p x hp hx=>?_⟩;obtain ⟨a,e,k⟩:=A8 (g2 i (.ref p) x (by rw [bp,hp];rfl) hx);cases e;exact k
 ·cases h
theorem HF {K:aa} {v:Value} {r:List (List (Int×Int))} (h:vq K v=some r): ∃a ps,v= .ref a/\wu K a (ps.map V.ref)/\bQ (λp x=>yy K (.ref p) x) ps r:=by
 unfold vq at h;split at h
 ·rename_i l q
  obtain ⟨ad,o,its,n,rfl,h1,h2,h3,h4,h5⟩:=ql q;obtain ⟨g1,g2⟩:=sh h;have hall: ∀v∈l, ∃a,v= .ref a/\True:=λv hv=>by
   obtain ⟨i,hi⟩:=gG hv;have hl:=(aJ.mp hi).1;obtain ⟨a,e,_⟩:=rH (g2 i v _ hi (ao (by omega)));exact ⟨a,e,trivial⟩
  obtain ⟨ps,rfl⟩:=zm hall;rw [ab] at g1;refine ⟨ad,ps,rfl,⟨o,its,n,h1,h2,h3,h4,by rw [h5];exact E9 ps⟩,g1,λi p x hp hx=>?_⟩;obtain ⟨a,e,k⟩:=rH (g2 i (.ref p) x (by rw [bp,hp];rfl) hx);cases e;exact k
 ·cases h
def C1 (K:aa) (v:V) (x:Int×Int×List (Int×Int)):Prop:= ∃(a:Addr) (r:V),v= .ref a/\wu K a [.int x.1, .int x.2.1,r]/\yy K r x.2.2
theorem rT {K:aa} {v:Value} {x:Int×Int×List (Int×Int)} (h:vS K v=some x): ∃a,v= .ref a/\C1 K (.ref a) x:=by
 unfold vS at h;split at h
 ·rename_i p a t b u r q
  split at h
  ·rename_i l e
   cases h;obtain ⟨ad,o,its,n,rfl,h1,h2,h3,h4,h5⟩:=ql q;obtain ⟨ar,rfl,k⟩:=rH e;exact ⟨ad,rfl,ad,_,rfl,⟨o,its,n,h1,h2,h3,h4,by rw [h5];exact .cons ⟨t,rfl⟩ (.cons ⟨u,rfl⟩ (.cons rfl .nil))⟩,k⟩
  ·cases h
 ·cases h
def Qr (P:afZ) (w:afW) (K:aa) (mg:Str->Option Value):Prop:= ∃(a:Addr) (v7 v9 AG:V),mg "ROWS" =some (.ref a)/\KD P w K a [(az 7,v7),(az 9,v9),(az 12,AG)]/\
 C1 K v7 (5,40,[(0,675),(0,17575),(0,17575),(0,36524),(0,25)])/\C1 K v9 (5,5,[(0,9)])/\C1 K AG (0,24,[(0,8),(0,999999999),(0,8)])
structure sj (K:aa) (mg:Str->Option Value):Prop where
 tab: ∃(a:Addr) (fs:List Addr),mg "CHANGES" =some (.ref a)/\wu K a (fs.map V.ref)/\fs.map (λf=>some (Value.ref f))= [mg "put_fare",mg "take_fare",mg "put_combination",mg "put_floor",mg "put_tax",mg "put_percent",mg "put_unit",mg "put_journey"]
structure nN (K:aa) (mg:Str->Option Value):Prop where
 tab: ∃(a:Addr) (fs:List Addr),mg "QUESTIONS" =some (.ref a)/\wu K a (fs.map V.ref)/\fs.map (λf=>some (Value.ref f))= [mg "tell_price",mg "tell_party",mg "tell_singles",mg "tell_pair",mg "tell_check",mg "tell_alone",mg "tell_count",mg "tell_prefixes",mg "tell_fares",mg "tell_journey"]
structure Txt (P:afZ) (w:afW) (K:aa) (mg:Str->Option Value) (t:CA):Prop where
 bl:Bl mg
 cs:Cs mg
 ds:Ds K mg
 ks:Ks K mg t
 Oh: ∃a,mg "NUMBERS" =some (.ref a)/\vq K (.ref a)=some tL
 rows:Qr P w K mg
 changes:sj K mg
 Hu:nN K mg
section
variable {h:afV}
theorem TM {n:Nat} {C:List Value->Prop} (h: ∀a us,us.length=n->C (a::us)) (us:List Value) (hl:us.length=n+1):C us:=by
 cases us with
 |nil=>cases hl
 |cons a us=>exact h a us (yQ hl)
theorem ar0 {C:List Value->Prop} (h:C []) (us:List Value) (hl:us.length=0):C us:=by
 cases us with
 |nil=>exact h
 |cons a us=>cases hl
theorem ar1 {C:List Value->Prop} (h: ∀a0,C [a0]): ∀us:List Value,us.length=1->C us:=TM λa=>ar0 (C:=λus=>C (a::us)) (h a)
theorem ar2 {C:List Value->Prop} (h: ∀a0 a1,C [a0,a1]): ∀us:List Value,us.length=2->C us:=TM λa=>ar1 (C:=λus=>C (a::us)) (h a)
theorem ar3 {C:List Value->Prop} (h: ∀a0 a1 a2,C [a0,a1,a2]): ∀us:List Value,us.length=3->C us:=TM λa=>ar2 (C:=λus=>C (a::us)) (h a)
theorem ar4 {C:List Value->Prop} (h: ∀a0 a1 a2 a3,C [a0,a1,a2,a3]): ∀us:List Value,us.length=4->C us:=TM λa=>ar3 (C:=λus=>C (a::us)) (h a)
theorem ar5 {C:List Value->Prop} (h: ∀a0 a1 a2 a3 a4,C [a0,a1,a2,a3,a4]): ∀us:List Value,us.length=5->C us:=TM λa=>ar4 (C:=λus=>C (a::us)) (h a)
theorem ar6 {C:List Value->Prop} (h: ∀a0 a1 a2 a3 a4 a5,C [a0,a1,a2,a3,a4,a5]): ∀us:List Value,us.length=6->C us:=TM λa=>ar5 (C:=λus=>C (a::us)) (h a)
theorem acb (X:K.In h) (G:h.Ns af4 mg) {x:Str} {st:af6} {ps:List Str} {f:Addr} {oc:Value} {od an:Option Addr} {wJ:Array (Option Value)} {kV doc pm db ct:Value}
  (a:bL K af4 x=some (some (.ref f))) (l:K.lookup f=some ⟨oc,od, .func (eT x x (j8 st) (gY st) (aM st) .none kV doc pm an db ct),wJ⟩) (c:jS K db x=true) (k:eA K (.ref f)=true)
  (b: ∀(kV doc pm:Value) (an:Option Addr) (db ct:Value) (us:List Value),us.length=ps.length->bindArgs (eT x x (j8 st) (gY st) (aM st) .none kV doc pm an db ct) ⟨us,[]⟩=pure (ps.zip us):=by first|(exact λ_ _ _ _ _ _=>Lf.ar3 λ_ _ _=>rfl)|(exact λ_ _ _ _ _ _=>Lf.ar2 λ_ _=>rfl)|(exact λ_ _ _ _ _ _=>Lf.ar1 λ_=>rfl)|(exact λ_ _ _ _ _ _=>Lf.ar4 λ_ _ _ _=>rfl)|(exact λ_ _ _ _ _ _=>Lf.ar5 λ_ _ _ _ _=>rfl)|(exact λ_ _ _ _ _ _=>Lf.ar6 λ_ _ _ _ _ _=>rfl)):Dn K mg x st ps:=
 ⟨f,_,zP l c k,bD X G a,(zP l c k).binds b⟩
theorem acd (X:K.In h) (G:h.Ns af4 mg) {x q:Str} {st:af6} {ps:List Str} {C f:Addr} {oc:Value} {od an:Option Addr} {wJ:Array (Option Value)} {kV doc pm db ct:Value}
  (a:bL K af4 x=some (some (.ref C))) (i:eB K (.ref C) "__init__" =some (some (.ref f))) (fn:Pp K (.ref f)=true)
  (l:K.lookup f=some ⟨oc,od, .func (eT "__init__" q (j8 st) (gY st) (aM st) .none kV doc pm an db ct),wJ⟩) (c:jS K db q=true) (k:eA K (.ref f)=true)
  (pg:lC K C Str.empty=true) (hd:kb K C=true) (po:qY K C=true) (sa:eB K (.ref C) "__setattr__" =some (some (.builtin "object.__setattr__"))) (mk:tP K C=true) (kc:eA K (.ref C)=true)
  (b: ∀(kV doc pm:Value) (an:Option Addr) (db ct:Value) (us:List Value),us.length=ps.length->bindArgs (eT "__init__" q (j8 st) (gY st) (aM st) .none kV doc pm an db ct) ⟨us,[]⟩=pure (ps.zip us)):Dc K mg x q st C ps:=
 ⟨f,_,zP l c k,bD X G a,⟨mk,i,fn,kc⟩,(zP l c k).binds b,⟨pg,hd,po,sa⟩⟩
theorem ace (X:K.In h) (G:h.Ns af4 mg) {x:Str} {n:Int} {t:Tok} (a:bL K af4 x=some (some (.int n t))):Ci mg x n:=⟨_,bD X G a,⟨t,rfl⟩⟩
theorem Y8 (X:K.In h) (G:h.Ns af4 mg) {a:Addr} (e:bL K af4 "NUMBERS" =some (some (.ref a))) (l:vq K (.ref a)=some tL): ∃a,mg "NUMBERS" =some (.ref a)/\vq K (.ref a)=some tL:=⟨a,bD X G e,l⟩
theorem Xi {P:afZ} {w:afW} (X:K.In h) (G:h.Ns af4 mg) {a ep:Nat} {h7 h9 Il:Int} {t7 t9 QW:Tok} {v7 v9 AG:Value} {oc:Value} {od:Option Addr} {wJ:Array (Option Value)} (e:bL K af4 "ROWS" =some (some (.ref a)))
  (l:K.lookup a=some ⟨oc,od, .dict #[⟨h7, .int 7 t7,v7⟩,⟨h9, .int 9 t9,v9⟩,⟨Il, .int 12 QW,AG⟩] ep,wJ⟩) (c1:oc= .type "dict") (c2:od=none) (c3:wJ= #[]) (c4:(a==agb)=false) (e7:h7=agB 7) (e9:h9=agB 9) (e12:Il=agB 12)
  (f7:vS K v7=some (5,40,[(0,675),(0,17575),(0,17575),(0,36524),(0,25)])) (f9:vS K v9=some (5,5,[(0,9)])) (f12:vS K AG=some (0,24,[(0,8),(0,999999999),(0,8)])):Qr P w K mg:=by
 subst c1 c2 c3 e7 e9 e12;obtain ⟨a7,rfl,k7⟩:=rT f7;obtain ⟨a9,rfl,k9⟩:=rT f9;obtain ⟨WJ,rfl,k12⟩:=rT f12;refine ⟨a, .ref a7, .ref a9, .ref WJ,bD X G e,⟨c4,_,[(az 7, .ref a7),(az 9, .ref a9),(az 12, .ref WJ)],l, .cons ⟨rfl,rfl⟩ (.cons ⟨rfl,rfl⟩ (.cons ⟨rfl,rfl⟩ .nil)),_,ep,⟨rfl,rfl,rfl⟩,rfl,?_,?_,?_⟩,k7,k9,k12⟩
 ·intro y hy;have hy:y∈ [(⟨agB 7, .int 7 t7, .ref a7⟩:agS),⟨agB 9, .int 9 t9, .ref a9⟩,⟨agB 12, .int 12 QW, .ref WJ⟩]:=by simpa using hy
  rcases aB.mp hy with rfl|hy
  ·exact ⟨az 7,iD 7 t7,rfl⟩
  rcases aB.mp hy with rfl|hy
  ·exact ⟨az 9,iD 9 t9,rfl⟩
  rcases aB.mp hy with rfl|hy
  ·exact ⟨az 12,iD 12 QW,rfl⟩
  ·cases hy
 ·exact .cons (iD 7 t7) rfl (.cons (iD 9 t9) rfl (.cons (iD 12 QW) rfl .nil))
 ·show ([az 7,az 9,az 12]:List Key).Nodup;decide
theorem JB {a:Addr} {oc:Value} {od:Option Addr} {fs:List Addr} {n:Nat} {wJ:Array (Option Value)} (hl:fs.length<=100) (l:K.lookup a=some ⟨oc,od, .seq (fs.map Value.ref).toArray n,wJ⟩) (hc:oc= .type "tuple"):wu K a (fs.map V.ref):=
 ⟨_,_,n,l,hc,rfl,by rw [be,ab];exact aV hl (by decide),by simpa using E9 fs⟩
theorem Rt (X:K.In h) (G:h.Ns af4 mg) {a n:Nat} {f0 f1 f2 f3 f4 f5 f6 f7:Addr} {oc:Value} {od:Option Addr} {wJ:Array (Option Value)} (e:bL K af4 "CHANGES" =some (some (.ref a))) (l:K.lookup a=some ⟨oc,od, .seq #[.ref f0, .ref f1, .ref f2, .ref f3, .ref f4, .ref f5, .ref f6, .ref f7] n,wJ⟩) (hc:oc= .type "tuple")
  (e0:bL K af4 "put_fare" =some (some (.ref f0))) (e1:bL K af4 "take_fare" =some (some (.ref f1))) (e2:bL K af4 "put_combination" =some (some (.ref f2))) (e3:bL K af4 "put_floor" =some (some (.ref f3))) (e4:bL K af4 "put_tax" =some (some (.ref f4))) (e5:bL K af4 "put_percent" =some (some (.ref f5))) (e6:bL K af4 "put_unit" =some (some (.ref f6))) (e7:bL K af4 "put_journey" =some (some (.ref f7))):sj K mg:=
 ⟨⟨a,[f0,f1,f2,f3,f4,f5,f6,f7],bD X G e,JB (fs:= [f0,f1,f2,f3,f4,f5,f6,f7]) (by simp) l hc,by simp only [bb,gK,bD X G e0,bD X G e1,bD X G e2,bD X G e3,bD X G e4,bD X G e5,bD X G e6,bD X G e7]⟩⟩
theorem Oj (X:K.In h) (G:h.Ns af4 mg) {a n:Nat} {f0 f1 f2 f3 f4 f5 f6 f7 f8 f9:Addr} {oc:Value} {od:Option Addr} {wJ:Array (Option Value)} (e:bL K af4 "QUESTIONS" =some (some (.ref a))) (l:K.lookup a=some ⟨oc,od, .seq #[.ref f0, .ref f1, .ref f2, .ref f3, .ref f4, .ref f5, .ref f6, .ref f7, .ref f8, .ref f9] n,wJ⟩) (hc:oc= .type "tuple")
  (e0:bL K af4 "tell_price" =some (some (.ref f0))) (e1:bL K af4 "tell_party" =some (some (.ref f1))) (e2:bL K af4 "tell_singles" =some (some (.ref f2))) (e3:bL K af4 "tell_pair" =some (some (.ref f3))) (e4:bL K af4 "tell_check" =some (some (.ref f4))) (e5:bL K af4 "tell_alone" =some (some (.ref f5))) (e6:bL K af4 "tell_count" =some (some (.ref f6))) (e7:bL K af4 "tell_prefixes" =some (some (.ref f7))) (e8:bL K af4 "tell_fares" =some (some (.ref f8))) (e9:bL K af4 "tell_journey" =some (some (.ref f9))):nN K mg:=
 ⟨⟨a,[f0,f1,f2,f3,f4,f5,f6,f7,f8,f9],bD X G e,JB (fs:= [f0,f1,f2,f3,f4,f5,f6,f7,f8,f9]) (by simp) l hc,by simp only [bb,gK,bD X G e0,bD X G e1,bD X G e2,bD X G e3,bD X G e4,bD X G e5,bD X G e6,bD X G e7,bD X G e8,bD X G e9]⟩⟩
end
end Lf
variable {t:Lf.CA}
namespace L2
open PySem.W (WData Codec OpenSpec Well WellAll ReadsW ReadsAllW)
mutual
inductive Dw (K:aa) (H:Hp):V->WData->Prop
 |fE:Dw K H .fE .none
 |bl (b:Bool):Dw K H (.bl b) (.bool b)
 |int (i:Int):Dw K H (.int i) (.int i)
 |str (x:Str):Dw K H (.str x) (.str x)
 |Ac (b:Array UInt8):Dw K H (.Ac b) (.bytes b.toList)
 |lst {a:Addr} {xs:List V} {ds:List WData}:iL K H a xs->mB K H xs ds->Dw K H (.ref a) (.list ds)
 |tup {a:Addr} {xs:List V} {ds:List WData}:Ah K H a xs->mB K H xs ds->Dw K H (.ref a) (.tuple ds)
inductive mB (K:aa) (H:Hp):List V->List WData->Prop
 |nil:mB K H [] []
 |cons {v:V} {vs:List V} {d:WData} {ds:List WData}:Dw K H v d->mB K H vs ds->mB K H (v::vs) (d::ds)
end
theorem O2 {K:aa} {H:Hp}: ∀ns:List Int,mB K H (ns.map V.int) (ns.map WData.int)
 | []=> .nil
 |n::r=> .cons (.int n) (O2 r)
theorem Ot {K:aa} {H:Hp}: ∀(ns:List Int) (xs:List V),mB K H xs (ns.map WData.int)->xs=ns.map V.int
 | [],xs,h=>by
  cases h;rfl
 |n::r,xs,h=>by
  cases h with
  |cons h1 h2=>
   cases h1;rw [Ot r _ h2] <;>rfl
section
variable {P:afZ} {w:afW} {K:aa} {H:Hp} {h:afV} {R:Jc} {cl:Str->Option Addr}
theorem Q1 {a:Addr} {xs:List V} (cN:nT P w H h) (KX:K.In h) (q:iL K H a xs): ∃(its:List Value) (o:Obj) (n:Nat),Vals xs its/\h.get? a=some o/\o.cls= .type "list"/\o.data= .seq its.toArray n:=by
 rcases q with q|⟨o,its,n,e,hc,_,hd,_,hv⟩
 ·obtain ⟨_,its,n,hv,e⟩:=(show dR P w H h a (.lst xs) from q.ok cN)
  exact ⟨its,_,n,hv,e,rfl,rfl⟩
 ·exact ⟨its.toList,o,n,hv,KX _ _ e,hc,by simp [hd]⟩
theorem Q0 {a:Addr} {xs:List V} (cN:nT P w H h) (KX:K.In h) (q:Ah K H a xs): ∃(its:List Value) (o:Obj) (n:Nat),Vals xs its/\h.get? a=some o/\o.cls= .type "tuple"/\o.data= .seq its.toArray n:=by
 rcases q with q|⟨o,its,n,e,hc,hd,_,hv⟩
 ·obtain ⟨_,its,hv,o,e,hc,n,hd⟩:=(show dR P w H h a (.tup xs) from q.ok cN)
  exact ⟨its,o,n,hv,e,hc,hd⟩
 ·exact ⟨its.toList,o,n,hv,KX _ _ e,hc,by simp [hd]⟩
mutual
theorem Dw.reads (cN:nT P w H h) (KX:K.In h): ∀(d:WData) (v:V) (u:Value),Dw K H v d->RelV v u->∃as,ReadsW R cl h u d as
 | .none,_,_,x,r=>by
  cases x;cases r;exact ⟨_,ReadsW.none⟩
 | .bool b,_,_,x,r=>by
  cases x;cases r;exact ⟨_,ReadsW.bool b⟩
 | .int i,_,_,x,r=>by
  cases x;obtain ⟨t,rfl⟩:=r;exact ⟨_,ReadsW.int i t⟩
 | .str s,_,_,x,r=>by
  cases x;obtain ⟨t,rfl⟩:=r;exact ⟨_,ReadsW.str s t⟩
 | .bytes b,_,_,x,r=>by
  cases x;obtain ⟨t,rfl⟩:=r;exact ⟨_,ReadsW.bytes _ t⟩
 | .list ds,_,_,x,r=>by
  cases x with
  |lst hs ha=>
   cases r;obtain ⟨its,o,n,rv,ho,hc,hd⟩:=Q1 cN KX hs;obtain ⟨as,hr⟩:=Dw.readsAll cN KX ds _ its ha rv;exact ⟨_,ReadsW.list ho hc hd hr⟩
 | .tuple ds,_,_,x,r=>by
  cases x with
  |tup hs ha=>
   cases r;obtain ⟨its,o,n,rv,ho,hc,hd⟩:=Q0 cN KX hs;obtain ⟨as,hr⟩:=Dw.readsAll cN KX ds _ its ha rv;exact ⟨_,ReadsW.tuple ho hc hd hr⟩
 | .float _,_,_,x,_=>by cases x
 | .dict _,_,_,x,_=>by cases x
 | .bytearray _,_,_,x,_=>by cases x
 | .set _,_,_,x,_=>by cases x
 | .frozenset _,_,_,x,_=>by cases x
 | .obj _ _,_,_,x,_=>by cases x
theorem Dw.readsAll (cN:nT P w H h) (KX:K.In h): ∀(ds:List WData) (vs:List V) (us:List Value),mB K H vs ds->Vals vs us->∃as,ReadsAllW R cl h us ds as
 | [],_,_,x,r=>by
  cases x;cases r;exact ⟨_,ReadsAllW.nil⟩
 |d::ds,_,_,x,r=>by
  cases x with
  |cons h1 h2=>
   cases r with
   |cons r1 r2=>
    obtain ⟨as,q1⟩:=Dw.reads cN KX d _ _ h1 r1;obtain ⟨bs,q2⟩:=Dw.readsAll cN KX ds _ _ h2 r2;exact ⟨_,ReadsAllW.cons q1 q2⟩
end
end
mutual
def FE:WData->Bool
 | .none=>true
 | .bool _=>true
 | .int _=>true
 | .str _=>true
 | .bytes _=>true
 | .list xs=>tw xs
 | .tuple xs=>tw xs
 |_=>false
def tw:List WData->Bool
 | []=>true
 |x::r=>FE x&&tw r
end
theorem Bo {α:Type} {f:α->WData} (h: ∀a,FE (f a)=true): ∀l:List α,tw (l.map f)=true
 | []=>rfl
 |x::r=>by
  show (FE (f x)&&tw (r.map f))=true;rw [h x,Bo h r] <;>rfl
theorem m9: ∀(c:Codec) (a:c.denote),FE (c.enc a)=true
 | .unit,_=>rfl
 | .bool,_=>rfl
 | .int _ _,_=>rfl
 | .nat _ _,_=>rfl
 | .u8,_=>rfl
 | .bytes _ _,_=>rfl
 | .text _ _ _ _,_=>rfl
 | .list _ _ c,a=>Bo (λx=>m9 c x) a
 | .pair c d,a=>by
  show (FE (c.enc a.1)&&(FE (d.enc a.2)&&true))=true;rw [m9 c a.1,m9 d a.2] <;>rfl
 | .triple c d e,a=>by
  show (FE (c.enc a.1)&&(FE (d.enc a.2.1)&&(FE (e.enc a.2.2)&&true)))=true;rw [m9 c a.1,m9 d a.2.1,m9 e a.2.2] <;>rfl
 | .option c,none=>rfl
 | .option c,some x=>m9 c x
theorem xS: ∀(cs:List Codec) (a:Codec.denoteAll cs),tw (Codec.encAll cs a)=true
 | [],_=>rfl
 |c::cs,a=>by
  show (FE (c.enc a.1)&&tw (Codec.encAll cs a.2))=true;rw [m9 c a.1,xS cs a.2] <;>rfl
theorem pi: ∀{xs:List WData} {d:WData},d∈xs->d.weight<=WData.weightAll xs
 | [],d,h=>absurd h (by simp)
 |x::r,d,h=>by
  show d.weight<=x.weight+1+WData.weightAll r;rcases aB.mp h with e|m
  ·rw [e];omega
  ·have z:=pi m;omega
def toV:Value->V
 | .none=> .fE
 | .bool b=> .bl b
 | .int i _=> .int i
 | .str x _=> .str x
 | .bytes b _=> .Ac b
 | .ref a=> .ref a
 |_=> .fE
def IX (A:List Addr):Value->Prop
 | .none=>True
 | .bool _=>True
 | .int _ _=>True
 | .str _ _=>True
 | .bytes _ _=>True
 | .ref a=>a∈A
 |_=>False
theorem IX.mono {A B:List Addr} (h: ∀a∈A,a∈B): ∀{u:Value},IX A u->IX B u:=λ{u} x=>by
 cases u with
 |ref a=>exact h a x
 |none=>trivial
 |bool b=>trivial
 |int i t=>trivial
 |str s t=>trivial
 |bytes b t=>trivial
 |_=>exact de x
theorem Ke {A:List Addr} {u:Value} (x:IX A u):RelV (toV u) u:=by
 cases u with
 |ref a=>rfl
 |none=>rfl
 |bool b=>rfl
 |int i t=>exact ⟨t,rfl⟩
 |str s t=>exact ⟨t,rfl⟩
 |bytes b t=>exact ⟨t,rfl⟩
 |_=>exact de x
theorem kK {A:List Addr}: ∀{vs:List Value},(∀u∈vs,IX A u)->Vals (vs.map toV) vs
 | [],_=> .nil
 |u::r,h=> .cons (Ke (h u (aN ..))) (kK λx hx=>h x (aE _ hx))
def mF (h:afV) (A:List Addr) (a:Addr):Prop:= ∃vs:List Value,vs.length<=sizeLine/\(∀u∈vs,IX A u)/\
 (h.get? a=some {cls:= .type "list",data:= .seq vs.toArray}∨h.get? a=some {cls:= .type "tuple",data:= .seq vs.toArray})
theorem mF.mono {h:afV} {A B:List Addr} {a:Addr} (k: ∀a∈A,a∈B) (x:mF h A a):mF h B a:=by
 obtain ⟨vs,h1,h2,h3⟩:=x;exact ⟨vs,h1,λu hu=>(h2 u hu).mono k,h3⟩
theorem j2 {P:agt} {h:afV}: ∀{vs:List Value} {ds:List WData},WellAll P h vs ds->vs.length=ds.length
 |_,_, .nil=>rfl
 |_,_, .cons _ b=>by
  show _+1=_+1;rw [j2 b]
theorem xC {P:agt} {h:afV} {v:Value} {ds:List WData} (x:Well P h v (.list ds)): ∃(a:Addr) (vs:List Value),v= .ref a/\h.get? a=some {cls:= .type "list",data:= .seq vs.toArray}/\WellAll P h vs ds:=by
 cases x with
 |list ho hall=>exact ⟨_,_,rfl,ho,hall⟩
theorem uz {P:agt} {h:afV} {v:Value} {ds:List WData} (x:Well P h v (.tuple ds)): ∃(a:Addr) (vs:List Value),v= .ref a/\h.get? a=some {cls:= .type "tuple",data:= .seq vs.toArray}/\WellAll P h vs ds:=by
 cases x with
 |tuple ho hall=>exact ⟨_,_,rfl,ho,hall⟩
theorem xD {P:agt} {h:afV} {us:List Value} {d:WData} {ds:List WData} (x:WellAll P h us (d::ds)): ∃(v:Value) (vs:List Value),us=v::vs/\Well P h v d/\WellAll P h vs ds:=by
 cases x with
 |cons a b=>exact ⟨_,_,rfl,a,b⟩
theorem FU {n:Nat} (h:n<=1048576):n<=sizeLine:=aV h (by decide)
section
variable {P:agt} {h:afV}
mutual
theorem Mu: ∀(d:WData) (v:Value),Well P h v d->FE d=true->d.weight<=1048576->∃A:List Addr,IX A v/\∀a∈A,mF h A a
 | .none,_,x,_,_=>by
  cases x;exact ⟨[],trivial,λa m=>absurd m (by simp)⟩
 | .bool b,_,x,_,_=>by
  cases x;exact ⟨[],trivial,λa m=>absurd m (by simp)⟩
 | .int i,_,x,_,_=>by
  cases x;exact ⟨[],trivial,λa m=>absurd m (by simp)⟩
 | .str s,_,x,_,_=>by
  cases x;exact ⟨[],trivial,λa m=>absurd m (by simp)⟩
 | .bytes b,_,x,_,_=>by
  cases x;exact ⟨[],trivial,λa m=>absurd m (by simp)⟩
 | .list ds,_,x,p,z=>by
  obtain ⟨a,vs,rfl,ho,hall⟩:=xC x;have z2:WData.weightAll ds<=1048576:=z;obtain ⟨A,h1,h2⟩:=qM ds _ hall p λd hd=>aV (pi hd) z2;have k: ∀b∈A,b∈a::A:=λb hb=>aE _ hb;refine ⟨a::A,aN ..,λb hb=>?_⟩;rcases aB.mp hb with e|m
  ·rw [e];exact ⟨vs,FU (by rw [j2 hall];exact aV (tR ds) z2),λu hu=>(h1 u hu).mono k, .inl ho⟩
  ·exact (h2 b m).mono k
 | .tuple ds,_,x,p,z=>by
  obtain ⟨a,vs,rfl,ho,hall⟩:=uz x;have z2:WData.weightAll ds<=1048576:=z;obtain ⟨A,h1,h2⟩:=qM ds _ hall p λd hd=>aV (pi hd) z2;have k: ∀b∈A,b∈a::A:=λb hb=>aE _ hb;refine ⟨a::A,aN ..,λb hb=>?_⟩;rcases aB.mp hb with e|m
  ·rw [e];exact ⟨vs,FU (by rw [j2 hall];exact aV (tR ds) z2),λu hu=>(h1 u hu).mono k, .inr ho⟩
  ·exact (h2 b m).mono k
 | .float _,_,_,p,_=>cz (show false=true from p)
 | .dict _,_,_,p,_=>cz (show false=true from p)
 | .bytearray _,_,_,p,_=>cz (show false=true from p)
 | .set _,_,_,p,_=>cz (show false=true from p)
 | .frozenset _,_,_,p,_=>cz (show false=true from p)
 | .obj _ _,_,_,p,_=>cz (show false=true from p)
theorem qM: ∀(ds:List WData) (vs:List Value),WellAll P h vs ds->tw ds=true->(∀d∈ds,d.weight<=1048576)->∃A:List Addr,(∀u∈vs,IX A u)/\∀a∈A,mF h A a
 | [],_,x,_,_=>by
  cases x;exact ⟨[],λu m=>absurd m (by simp),λa m=>absurd m (by simp)⟩
 |d::ds,_,x,p,z=>by
  obtain ⟨v,vs,rfl,x1,x2⟩:=xD x;have q:FE d=true/\tw ds=true:=ph.mp p;obtain ⟨A,a1,a2⟩:=Mu d v x1 q.1 (z d (aN ..));obtain ⟨B,b1,b2⟩:=qM ds vs x2 q.2 λe he=>z e (aE _ he);have kA: ∀b∈A,b∈A++B:=λb hb=>bF.mpr (.inl hb);have kB: ∀b∈B,b∈A++B:=λb hb=>bF.mpr (.inr hb);refine ⟨A++B,λu hu=>?_,λb hb=>?_⟩
  ·rcases aB.mp hu with e|m
   ·rw [e];exact a1.mono kA
   ·exact (b1 u m).mono kB
  ·rcases bF.mp hb with m|m
   ·exact (a2 b m).mono kA
   ·exact (b2 b m).mono kB
end
end
def Oy (o:Obj):Option HO:=match o.data with
 | .seq vs _=>if (o.cls==Value.type "list")=true then some (.kY o (.lst (vs.toList.map toV))) else some (.kY o (.tup (vs.toList.map toV)))
 |_=>none
def l9 (K:aa) (h:afV) (A:List Addr):Hp:=λb=>if b∈A then (if (K.lookup b).isNone=true then (h.get? b).bind Oy else none) else none
def CC (H:Hp):Prop:= ∀b,H b=none∨∃o u,H b=some (.kY o u)
theorem BZ (vs:List Value):Oy {cls:= .type "list",data:= .seq vs.toArray}=some (.kY {cls:= .type "list",data:= .seq vs.toArray} (.lst (vs.map toV))):=by
 show (if (Value.type "list" ==Value.type "list")=true then some (HO.kY {cls:= .type "list",data:= .seq vs.toArray} (.lst (vs.toArray.toList.map toV))) else some (HO.kY {cls:= .type "list",data:= .seq vs.toArray} (.tup (vs.toArray.toList.map toV))))=_;rw [if_pos (beq_self_eq_true _)]
theorem BY (vs:List Value):Oy {cls:= .type "tuple",data:= .seq vs.toArray}=some (.kY {cls:= .type "tuple",data:= .seq vs.toArray} (.tup (vs.map toV))):=by
 show (if (Value.type "tuple" ==Value.type "list")=true then some (HO.kY {cls:= .type "tuple",data:= .seq vs.toArray} (.lst (vs.toArray.toList.map toV))) else some (HO.kY {cls:= .type "tuple",data:= .seq vs.toArray} (.tup (vs.toArray.toList.map toV))))=_;rw [if_neg (by decide)]
section
variable {P:afZ} {w:afW} {K:aa} {h:afV} {A:List Addr}
theorem um {b:Addr} {o:Obj} (hb:b∈A) (hk:K.lookup b=none) (e:h.get? b=some o):l9 K h A b=Oy o:=by
 unfold l9;rw [if_pos hb,hk,if_pos (show (none:Option Obj).isNone=true from rfl),e] <;>rfl
theorem Og {b:Addr} {u:HO} (q:l9 K h A b=some u):b∈A/\K.lookup b=none:=by
 unfold l9 at q;by_cases hb:b∈A
 ·rw [if_pos hb] at q;cases hk:K.lookup b with
  |none=>exact ⟨hb,rfl⟩
  |some o=>
   rw [hk,if_neg (by simp)] at q;cases q
 ·rw [if_neg hb] at q;cases q
theorem ul (ar: ∀a∈A,mF h A a) {b:Addr} {u:HO} (q:l9 K h A b=some u):K.lookup b=none/\∃vs:List Value,vs.length<=sizeLine/\(∀u∈vs,IX A u)/\
  ((h.get? b=some {cls:= .type "list",data:= .seq vs.toArray}/\u= .kY {cls:= .type "list",data:= .seq vs.toArray} (.lst (vs.map toV)))∨
   (h.get? b=some {cls:= .type "tuple",data:= .seq vs.toArray}/\u= .kY {cls:= .type "tuple",data:= .seq vs.toArray} (.tup (vs.map toV)))):=by
 obtain ⟨hb,hk⟩:=Og q;obtain ⟨vs,h1,h2,h3⟩:=ar b hb;refine ⟨hk,vs,h1,h2,?_⟩;rcases h3 with e|e
 ·rw [um hb hk e,BZ] at q;exact .inl ⟨e,(bx q).symm⟩
 ·rw [um hb hk e,BY] at q;exact .inr ⟨e,(bx q).symm⟩
theorem IT (ar: ∀a∈A,mF h A a):CC (l9 K h A):=λb=>by
 cases q:l9 K h A b with
 |none=>exact .inl rfl
 |some u=>
  obtain ⟨_,vs,_,_,⟨_,e⟩|⟨_,e⟩⟩:=ul ar q
  ·exact .inr ⟨_,_,by rw [e]⟩
  ·exact .inr ⟨_,_,by rw [e]⟩
theorem Pj (ar: ∀a∈A,mF h A a):nT P w (l9 K h A) h:=λb u q=>by
 obtain ⟨_,vs,h1,h2,⟨e,rfl⟩|⟨e,rfl⟩⟩:=ul ar q
 ·exact ⟨e,by rw [ab];exact h1,vs,_,kK h2,e⟩
 ·exact ⟨e,by rw [ab];exact h1,vs,kK h2,_,e,rfl,_,rfl⟩
theorem ue {c c':Value} {vs us:List Value} (e:(some {cls:=c,data:= .seq vs.toArray}:Option Obj)=some {cls:=c',data:= .seq us.toArray}):c=c'/\vs=us:=by
 have e1:=bx e;have e2:c=c':=congrArg Obj.cls e1;have e3:Data.seq vs.toArray=Data.seq us.toArray:=congrArg Obj.data e1;injection e3 with e4;refine ⟨e2,?_⟩;have e5:=congrArg S4 e4;simpa using e5
theorem aaQ (KX:K.In h) (ar: ∀a∈A,mF h A a) {a:Addr} {vs:List Value} (ha:a∈A) (e:h.get? a=some {cls:= .type "list",data:= .seq vs.toArray}):(∀u∈vs,IX A u)/\iL K (l9 K h A) a (vs.map toV):=by
 obtain ⟨us,h1,h2,h3⟩:=ar a ha;have hu:us=vs:=by
  rcases h3 with q|q
  ·rw [e] at q;exact (ue q).2.symm
  ·rw [e] at q;exact absurd (Value.type.inj (ue q).1) (by decide)
 subst hu;refine ⟨h2,?_⟩;cases hk:K.lookup a with
 |none=>exact .inl (.inr ⟨_,by rw [um ha hk e,BZ]⟩)
 |some o=>
  have e2:=KX a o hk;rw [e] at e2;obtain rfl:=bx e2;exact .inr ⟨_,us.toArray,_,hk,rfl,rfl,rfl,by rw [be];exact h1,by simpa using kK h2⟩
theorem aaP (KX:K.In h) (ar: ∀a∈A,mF h A a) {a:Addr} {vs:List Value} (ha:a∈A) (e:h.get? a=some {cls:= .type "tuple",data:= .seq vs.toArray}):(∀u∈vs,IX A u)/\Ah K (l9 K h A) a (vs.map toV):=by
 obtain ⟨us,h1,h2,h3⟩:=ar a ha;have hu:us=vs:=by
  rcases h3 with q|q
  ·rw [e] at q;exact absurd (Value.type.inj (ue q).1) (by decide)
  ·rw [e] at q;exact (ue q).2.symm
 subst hu;refine ⟨h2,?_⟩;cases hk:K.lookup a with
 |none=>exact .inl (.inr ⟨_,by rw [um ha hk e,BY]⟩)
 |some o=>
  have e2:=KX a o hk;rw [e] at e2;obtain rfl:=bx e2;exact .inr ⟨_,us.toArray,_,hk,rfl,rfl,by rw [be];exact h1,by simpa using kK h2⟩
mutual
theorem Sz {Pm:agt} (KX:K.In h) (ar: ∀a∈A,mF h A a): ∀(d:WData) (v:Value),Well Pm h v d->FE d=true->IX A v->Dw K (l9 K h A) (toV v) d
 | .none,_,x,_,_=>by
  cases x;exact .fE
 | .bool b,_,x,_,_=>by
  cases x;exact .bl b
 | .int i,_,x,_,_=>by
  cases x;exact .int i
 | .str s,_,x,_,_=>by
  cases x;exact .str s
 | .bytes b,_,x,_,_=>by
  cases x;have z:=Dw.Ac (K:=K) (H:=l9 K h A) b.toArray;exact z
 | .list ds,_,x,p,hu=>by
  obtain ⟨a,vs,rfl,ho,hall⟩:=xC x;obtain ⟨h2,hs⟩:=aaQ KX ar hu ho;exact .lst hs (zV KX ar ds _ hall p h2)
 | .tuple ds,_,x,p,hu=>by
  obtain ⟨a,vs,rfl,ho,hall⟩:=uz x;obtain ⟨h2,hs⟩:=aaP KX ar hu ho;exact .tup hs (zV KX ar ds _ hall p h2)
 | .float _,_,_,p,_=>cz (show false=true from p)
 | .dict _,_,_,p,_=>cz (show false=true from p)
 | .bytearray _,_,_,p,_=>cz (show false=true from p)
 | .set _,_,_,p,_=>cz (show false=true from p)
 | .frozenset _,_,_,p,_=>cz (show false=true from p)
 | .obj _ _,_,_,p,_=>cz (show false=true from p)
theorem zV {Pm:agt} (KX:K.In h) (ar: ∀a∈A,mF h A a): ∀(ds:List WData) (vs:List Value),WellAll Pm h vs ds->tw ds=true->(∀u∈vs,IX A u)->mB K (l9 K h A) (vs.map toV) ds
 | [],_,x,_,_=>by
  cases x;exact .nil
 |d::ds,_,x,p,hu=>by
  obtain ⟨v,vs,rfl,x1,x2⟩:=xD x;have q:FE d=true/\tw ds=true:=ph.mp p;exact .cons (Sz KX ar d v x1 q.1 (hu _ (aN ..))) (zV KX ar ds vs x2 q.2 λu m=>hu u (aE _ m))
end
end
theorem Hb {P:afZ} {w:afW} {K:aa} {mg mb:Str->Option Value} {CX:Ja} {k:Nat} {fa:Addr} {fd:agd} {ps:List Str} {sp:Sp} {dz:afU} {vals:List Value} {ds:List WData} {R:Jc} {cl:Str->Option Addr} {d0:WData}
  (KX:K.In dz.heap) (Oz:dz.heap.Ns af4 mg) (hb:dz.heap.Ns builtinsNs mb) (hbb: ∀x:Str,x≠"__name__"->mb x=agK x) (Z2:dz.heap.NoLimit) (hg:dz.gens= #[])
  (Vs:WellAll w.params dz.heap vals ds) (hpl:tw ds=true) (hwt: ∀d∈ds,d.weight<=1048576) (hr:gP k agU)
  (F: ∀base:afV,K.In base->base.Ns af4 mg->jZ P w K mg base CX k fa fd ps sp) (V9: ∀(s:afU) (us:List Value),us.length=ps.length->agM s fd ⟨us,[]⟩ (ps.zip us)) (hlen:ds.length=ps.length)
  (M3: ∀(H:Hp) (xs:List V),CC H->mB K H xs ds->sp xs H (λv H'=>Dw K H' v d0) λ_ _ _=>False)
  (Wd: ∀H e s',CX [] H dz (λ_ _ _=>False) e s'->False):
  codeAny (afY P w) agU (.call (.ref fa) ⟨vals,[]⟩) (λr s'=> ∃u as,r= .ok (.ret u)/\ReadsW R cl s'.heap u d0 as/\OldK dz.heap s'.heap/\s'.os=dz.os/\AllBare s'.gens) dz:=by
 obtain ⟨A,ho,ar⟩:=qM ds vals Vs hpl hwt;have hO:CC (l9 K dz.heap A):=IT ar;have cN:nT P w (l9 K dz.heap A) dz.heap:=Pj ar;have hS:=zV KX ar ds vals Vs hpl ho;have hV:=kK ho;have hK: ∀b u,l9 K dz.heap A b=some u->K.lookup b=none:=λb u q=>(ul ar q).1;have Ta: ∀{b:Addr} {o:Obj} {es:Array agS} {ep:Nat},dz.heap.get? b=some o->o.data= .dict es ep->l9 K dz.heap A b=none:=λ{b o es ep} e d=>by
  cases q:l9 K dz.heap A b with
  |none=>rfl
  |some u=>
   obtain ⟨_,vs,_,_,⟨e2,_⟩|⟨e2,_⟩⟩:=ul ar q
   ·rw [e2] at e;cases e;have d':Data.seq vs.toArray _=Data.dict es ep:=d;cases d'
   ·rw [e2] at e;cases e;have d':Data.seq vs.toArray _=Data.dict es ep:=d;cases d'
 generalize l9 K dz.heap A=H at hO cN hS hK Ta;have Gn: ∀{b:Addr} {o:Obj},dz.heap.get? b=some o->H b=none->(zL dz.heap H).get? b=some o:=λe n=>K9 e n;have Xk: ∀{b:Addr} {m:Str->Option Value},dz.heap.Ns b m->(zL dz.heap H).Ns b m:=λ{b m} ⟨o,es,ep,e,d,r⟩=>⟨o,es,ep,Gn e (Ta e d),d,r⟩
 have nK: ∀b o,K.lookup b=some o->H b=none:=λb o e=>by
  cases q:H b with
  |none=>rfl
  |some u=>
   rw [hK b u q] at e;cases e
 have hKb:K.In (zL dz.heap H):=λb o e=>Gn (KX b o e) (nK b o e);have hM:Mod K mg (zL dz.heap H):=⟨hKb,Xk Oz,⟨mb,Xk hb,hbb⟩,let ⟨mc,h1,h2⟩:=Z2;⟨mc,Xk h1,h2⟩⟩
 have e0:E3 P w K mg (zL dz.heap H) agU [] dz H:=⟨rfl,hM,λb o e=>Of e,tV (Ig _ _),trivial,λb hb=>absurd (show b∈([]:List Addr) from hb) (by simp),cN, .of_eq hg⟩
 have hl:vals.length=ps.length:=by rw [j2 Vs];exact hlen
 refine agF ((F _ hKb (Xk Oz)).run agU [] dz H ⟨vals,[]⟩ vals (vals.map toV) _ _ hr e0 (V9 dz vals hl) hV (M3 H _ hO hS)) λr s' x=>?_;cases r with
 |error e=>exact (Wd H e s' x).elim
 |ok fl=>
  cases fl with
  |next=>exact de x
  |brk=>exact de x
  |cont=>exact de x
  |ret u=>
   obtain ⟨v,H',os,bare,un,VI,r',q⟩:=x;have kept: ∀b o,dz.heap.get? b=some o->s'.heap.get? b=some o:=λb o e=>by
    cases q2:H b with
    |none=>exact un.keep b o e q2 (by intro z;exact absurd (show b∈([]:List Addr) from z) (by simp)) (by simp)
    |some u2=>
     rcases hO b with z|⟨ob,u3,z⟩
     ·rw [q2] at z;cases z
     ·have z2:=un.vR b ob _ z;obtain ⟨e1,_⟩:=cN b _ z;obtain ⟨e2,_⟩:=VI b _ z2;rw [e] at e1;cases e1;exact e2
   have KX':K.In s'.heap:=λb o e=>kept b o (KX b o e);obtain ⟨as,hrd⟩:=Dw.reads (R:=R) (cl:=cl) VI KX' d0 v u q r';exact ⟨u,as,rfl,hrd,OldK.of_keep kept,os,bare⟩
theorem vF {ds:List WData} (h:WData.layableAll ds=true): ∀d∈ds,d.weight<=1048576:=λd hd=>
 (PySem.W.layableW_iff.mp (bP.mp h d hd)).2.2
theorem vX: ∀(cs:List Codec) (a:Codec.denoteAll cs),(Codec.encAll cs a).length=cs.length
 | [],_=>rfl
 |c::cs,a=>by
  show (Codec.encAll cs a.2).length+1=cs.length+1;rw [vX cs a.2]
theorem GU {r:OpenSpec} {k:Nat} {q:afZ} {loose:List Str} {XP:(Str->Option Value)->afV->Prop} {YP:afW->afV->Prop} {d:DefRec} {K:agt->aa} {CX:afW->Ja} {ps:List Str} {sp:afW->Sp}
  (K0:r.wellSaid=true) (hdf:d.params.defaults= []) (hlen:r.args.length=ps.length) (hr:gP k agU)
  (hY: ∀(w:afW) (h:afV),YP w h->(K w.params).In h)
  (F: ∀(w:afW) (mg:Str->Option Value) (fa:Addr) (h:afV),YP w h->(K w.params).In h->h.Ns af4 mg->mg d.name=some (.ref fa)->
   ∃fd:agd,(∀(s:afU) (us:List Value),us.length=ps.length->agM s fd ⟨us,[]⟩ (ps.zip us))/\
    ∀base:afV,(K w.params).In base->base.Ns af4 mg->jZ r.prog w (K w.params) mg base (CX w) k fa fd ps (sp w))
  (M3: ∀(w:afW) (H:Hp) (xs:List V) (a:Codec.denoteAll r.args),CC H->Codec.withinAll r.args a=true->Codec.app r.args r.asked a=true->mB (K w.params) H xs (Codec.encAll r.args a)->
   sp w xs H (λv H'=>Dw (K w.params) H' v (r.ret.enc (Codec.app r.args r.f a))) λ_ _ _=>False)
  (Wd: ∀(w:afW) (H:Hp) (s:afU) (e:Value) (s':afU),CX w [] H s (λ_ _ _=>False) e s'->False):
  MO q loose XP YP r d [] (λf vs=>WW f vs):=by
 intro w xQ dz mg mb G Y fa o pm cd doc dV kV ho hd Ii hD hmg hg args vals as ZR Z4 hrd Vs hlo;obtain ⟨a,e1,e2⟩:=PySem.W.os_pre_some ZR;obtain ⟨e3,RN⟩:=Codec.encAll_of_decAll r.args args a e1;subst e3;have KX:=hY w _ Y;obtain ⟨fd,hb,hF⟩:=F w mg fa _ Y KX G.T.g hmg;refine PySem.W.enter_call (agF (Hb (R:= []) (cl:=classAt xQ.heap) (d0:=r.ret.enc (Codec.app r.args r.f a)) KX G.T.g G.T.b G.T.builtins G.T.nolimit hg Vs (xS _ _) (vF Z4) hr hF hb (by rw [vX];exact hlen)
  (λH xs hO hS=>M3 w H xs a hO RN e2 hS) λH e s'=>Wd w H dz e s') λr' s' hq=>?_)
 obtain ⟨u,XZ,rfl,h1,h2,h3,h4⟩:=hq;exact ⟨.inl ⟨u,_,XZ,rfl,λ_=>rfl,h1,(OpenSpec.post_iff K0 RN _ _).mpr rfl,λz=>cz (show false=true from z)⟩,h2,h3,h4⟩
theorem QJ {r:OpenSpec} {k:Nat} {q:afZ} {loose:List Str} {XP:(Str->Option Value)->afV->Prop} {YP:afW->afV->Prop} {d:DefRec} {K:agt->aa} {CX:Ja} {ps:List Str} {sp:aa->Sp}
  (K0:r.wellSaid=true) (hdf:d.params.defaults= []) (hlen:r.args.length=ps.length) (hr:gP k agU)
  (hY: ∀(w:afW) (h:afV),YP w h->(K w.params).In h)
  (F: ∀(w:afW) (mg:Str->Option Value) (fa:Addr) (h:afV),YP w h->(K w.params).In h->h.Ns af4 mg->mg d.name=some (.ref fa)->
   ∃fd:agd,(∀(s:afU) (us:List Value),us.length=ps.length->agM s fd ⟨us,[]⟩ (ps.zip us))/\
    ∀base:afV,(K w.params).In base->base.Ns af4 mg->jZ r.prog w (K w.params) mg base CX k fa fd ps (sp (K w.params)))
  (M3: ∀(K:aa) (H:Hp) (xs:List V) (a:Codec.denoteAll r.args),CC H->Codec.withinAll r.args a=true->Codec.app r.args r.asked a=true->mB K H xs (Codec.encAll r.args a)->
   sp K xs H (λv H'=>Dw K H' v (r.ret.enc (Codec.app r.args r.f a))) λ_ _ _=>False)
  (Wd: ∀(H:Hp) (s:afU) (e:Value) (s':afU),CX [] H s (λ_ _ _=>False) e s'->False):
  MO q loose XP YP r d [] (λf vs=>WW f vs):=
 GU (K:=K) (CX:=λ_=>CX) (sp:=λw=>sp (K w.params)) K0 hdf hlen hr hY F (λw H xs a h1 h2 h3 h4=>M3 (K w.params) H xs a h1 h2 h3 h4) λ_ H s e s'=>Wd H s e s'
end L2
namespace Lf
theorem cj {Q:VK} {H:Hp} {a b:Bool} (q:Q (.bl a) H) (e:a=b):Q (.bl b) H:=e▸q
theorem as_int {Q:VK} {H:Hp} {a b:Int} (q:Q (.int a) H) (e:a=b):Q (.int b) H:=e▸q
theorem dV (a b:Int):decide (V.int a=V.int b)=decide (a=b):=by
 rw [decide_eq_decide];exact ⟨λz=>V.int.inj z,λz=>congrArg V.int z⟩
theorem ip {c:Bool} {A B:Prop} (h1:c=true->A) (h2:c=false->B):if c=true then A else B:=by
 cases c with
 |true=>exact (if_pos rfl).mpr (h1 rfl)
 |false=>exact (if_neg aI).mpr (h2 rfl)
theorem aD.put {H H':Hp} {D:Addr} {o:HO} (s:aD H H') (n:H D=none):aD H (upd H' D o):=λb u e=>by
 rw [bK (aG e n)];exact s b u e
theorem vH {H:Hp} {p q D:Addr} {u o o':HO} (hp:H p=some u) (hq:H q=none) (hD:p≠D):upd (upd H q o) D o' p=some u:=by
 rw [bK hD,bK (aG hp hq)];exact hp
theorem bm {H:Hp} {p D:Addr} {u o':HO} (hp:H p=some u) (hD:p≠D):upd H D o' p=some u:=by
 rw [bK hD];exact hp
theorem dP (ps:List Addr) (p:Addr):ps.map V.ref++ [.ref p]=(ps++ [p]).map V.ref:=by rw [aP];rfl
theorem ints_snoc (ps:List Int) (p:Int):ps.map V.int++ [.int p]=(ps++ [p]).map V.int:=by rw [aP];rfl
theorem neT {a b:Int} {A B:Prop} (h: ¬a=b) (q:A):if (!decide (V.int a=V.int b))=true then A else B:=by
 rw [dV,decide_eq_false h];exact oT q
theorem Td {a b:Int} {A B:Prop} (h:a=b) (q:B):if (!decide (V.int a=V.int b))=true then A else B:=by
 rw [dV,decide_eq_true h];exact tF q
theorem eqT {a b:Int} {A B:Prop} (h:a=b) (q:A):if decide (V.int a=V.int b)=true then A else B:=by
 rw [dV,decide_eq_true h];exact oT q
theorem Nd {a b:Int} {A B:Prop} (h: ¬a=b) (q:B):if decide (V.int a=V.int b)=true then A else B:=by
 rw [dV,decide_eq_false h];exact tF q
theorem dT {c A B:Prop} [Decidable c] (h:c) (q:A):if decide c=true then A else B:=by
 rw [decide_eq_true h];exact oT q
theorem dF {c A B:Prop} [Decidable c] (h: ¬c) (q:B):if decide c=true then A else B:=by
 rw [decide_eq_false h];exact tF q
theorem di {α:Type}: ∀{l:List α} {i:Nat} {x:α},l[i]?=some x->l.take (i+1)=l.take i++ [x]
 | [],i,x,h=>by simp at h
 |a::l,0,x,h=>by
  have e:a=x:=bx h;subst e;rfl
 |a::l,i+1,x,h=>by
  have ih:=di (l:=l) (i:=i) (x:=x) h;rw [List.take_succ_cons,ih];rfl
theorem Bh {f:Str} {y:V}: ∀{ns:List Str} {vs:List V},ns.length=vs.length->f∉ns->kU f y (ns.zip vs)=(ns++ [f]).zip (vs++ [y])
 | [],[],_,_=>rfl
 | [],_::_,h,_=>by cases h
 |_::_,[],h,_=>by cases h
 |n::ns,v::vs,h,hf=>by
  have h1: ¬n=f:=λe=>hf (by rw [e];exact aN);have ih:=Bh (f:=f) (y:=y) (ns:=ns) (vs:=vs) (by simpa using h) λz=>hf (aE _ z);show (if n=f then (n,y)::ns.zip vs else (n,v)::kU f y (ns.zip vs))=_;rw [if_neg h1,ih];rfl
theorem uy {f:Str} {v:V}: ∀{ns:List Str} {vs:List V} {i:Nat},ns.Nodup->ns[i]?=some f->vs[i]?=some v->(ns.zip vs).lookup f=some v
 | [],_,i,_,h,_=>by simp at h
 |_::_,[],i,_,_,h=>by simp at h
 |n::ns,w::vs,0,_,h1,h2=>by
  have e1:n=f:=by simpa using h1
  have e2:w=v:=by simpa using h2
  subst e1 e2;simp [fO]
 |n::ns,w::vs,i+1,nd,h1,h2=>by
  obtain ⟨n1,n2⟩:=bj.mp nd;have h1:ns[i]?=some f:=by simpa using h1
  have fZ:(f==n)=false:=by
   rw [beq_eq_false_iff_ne];intro e;exact n1 (by rw [<-e];exact aH h1)
  show (match f==n with|true=>some w|false=>(ns.zip vs).lookup f)=some v;rw [fZ];exact uy n2 h1 (by simpa using h2)
theorem sN {K:aa} {D:L2.Ends} {σ:L2.St} {H:Hp} {a C dx:Addr} {ns:List Str} {vs:List V} {f:Str} {y:V} (hx:H a=some (.ins C dx (ns.zip vs))/\ns.length=vs.length) (cl:E5 K C) (nf:bG K C f) (k: ∀H',(H' a=some (.ins C dx ((ns++ [f]).zip (vs++ [y])))/\(ns++ [f]).length=(vs++ [y]).length)->dB a H H'->D.nx σ H')
  (hf:f∉ns:=by decide+kernel) (hn:ns.length<1000:=by decide):
  ∃(a' C' dx':Addr) (Wk:List (Str×V)),V.ref a= .ref a'/\H a'=some (.ins C' dx' Wk)/\E5 K C'/\bG K C' f/\Wk.length<1000/\D.nx σ (upd H a' (.ins C' dx' (kU f y Wk))):=by
 refine ⟨a,C,dx,_,rfl,hx.1,cl,nf,?_,?_⟩
 ·rw [dX];exact cu (oP _ _) hn
 ·rw [Bh hx.2 hf];exact k _ ⟨ak,by rw [aK,aK,hx.2];rfl⟩ dB.upd
theorem cJ {K:aa} {H:Hp} {a C dx:Addr} {ns:List Str} {vs:List V} {f:Str} {v:V} (i:Nat) (nd:ns.Nodup) (hx:H a=some (.ins C dx (ns.zip vs))) (cl:E5 K C) (nf:bG K C f) (h1:ns[i]?=some f:=by rfl) (h2:vs[i]?=some v:=by rfl):gF K H a f v:=⟨C,dx,_,hx,cl,nf,uy nd h1 h2⟩
theorem Ex {H:Hp} {x C dx:Addr} (h:H x=some (.ins C dx [])):H x=some (.ins C dx (([]:List Str).zip ([]:List V)))/\([]:List Str).length=([]:List V).length:=⟨h,rfl⟩
section
variable {X:Cx} {e f g:af0} {te tf tg:TE} {p pos:Pos}
theorem st (i:Nat) {x:Str} {pos':Pos} (nd:X.N.Nodup) (he:PE X e te) (hi:X.N[i]?=some x:=by rfl) (hx:Loc X.env.scope x:=by first|exact Nh rfl|exact GQ rfl)
  (hs:agv e (some (.Name x pos')) pos.line X.env=pure false:=by rfl) (hf:X.fn x=true∨X.env.scope.names.lookup x=some .local:=by first|exact .inl rfl|exact .inr rfl):PS X (.Assign [.Name x pos'] e pos) (ND te (vQ i)):=Rb nd hi hx he hs hf
theorem gn (i:Nat) {x:Str} (nd:X.N.Nodup) (hi:X.N[i]?=some x:=by rfl) (hx:Loc X.env.scope x:=by first|exact Nh rfl|exact GQ rfl) (hf:X.fn x=true∨X.env.scope.names.lookup x=some .local:=by first|exact .inl rfl|exact .inr rfl):
  PG X (.Name x pos) (vQ i):=N5 nd hi hx hf
theorem eF (K:aa) {a:Str} (he:PE X e te) (hb:agn e a X.env (eval e X.env)=eval e X.env:=by rfl) (hK:X.K=K:=by rfl):PE X (.Attribute e a pos) (NA K te a):=hK▸aT he hb
theorem Ml (K:aa) (he:PE X e te) (hf:PE X f tf) (hs:Aj f:=by exact λ_ _=>rfl) (hK:X.K=K:=by rfl):PE X (.Subscript e f pos) (QP (NZ K) te tf):=hK▸bf aY he hf hs
theorem aaH (K:aa) (he:PE X e te) (hf:PE X f tf) (hs:Aj f:=by exact λ_ _=>rfl) (hK:X.K=K:=by rfl):PE X (.Subscript e f pos) (QP (UQ K) te tf):=hK▸bf cI he hf hs
theorem WA (K:aa) {lo hi:Option af0} {p2:Pos} {tl th:TO} (he:PE X e te) (hl:PO X lo tl) (hh:PO X hi th) (hK:X.K=K:=by rfl):PE X (.Subscript e (.Slice lo hi none p2) pos) (tSl (UO K) te tl th):=hK▸qz uc he hl hh
theorem iV (hm:X.mg "len" =none) (he:PE X e te) (hg:Gl X "len" :=by rfl) (hs:af1 [e] X.env=(false,eval e X.env)::af1 [] X.env:=by rfl):PE X (.Call (.Name "len" p) [e] [] pos) (S6 (λxs H Q=> ∃p ys,xs= [.ref p]/\(iL X.K H p ys∨Ah X.K H p ys)/\Q (.int ys.length) H) (iq te oS)):=
 dU Ab hg hm xz (ae he ax hs) (he:=hs) (hpl:=rfl)
theorem Mj (hm:X.mg "len" =none) (he:PE X e te) (hg:Gl X "len" :=by rfl) (hs:af1 [e] X.env=(false,eval e X.env)::af1 [] X.env:=by rfl):PE X (.Call (.Name "len" p) [e] [] pos) (S6 (λxs H Q=> ∃a kvs,xs= [V.ref a]/\H a=some (.dK kvs)/\Q (.int kvs.length) H) (iq te oS)):=
 dU IR hg hm xz (ae he ax hs) (he:=hs) (hpl:=rfl)
theorem Sy (hm:X.mg "len" =none) (he:PE X e te) (hg:Gl X "len" :=by rfl) (hs:af1 [e] X.env=(false,eval e X.env)::af1 [] X.env:=by rfl):PE X (.Call (.Name "len" p) [e] [] pos) (S6 (λxs H Q=> ∃(a:Addr) (kvs:List (List Key×V)),xs= [V.ref a]/\H a=some (.dT kvs)/\Q (.int kvs.length) H) (iq te oS)):=
 dU ET hg hm xz (ae he ax hs) (he:=hs) (hpl:=rfl)
theorem WB (hc:X.calm=true) (hm:X.mg "max" =none) (he:PE X e te) (hf:PE X f tf) (hg:Gl X "max" :=by rfl) (hs:af1 [e,f] X.env=(false,eval e X.env)::af1 [f] X.env:=by rfl) (RQ:af1 [f] X.env=(false,eval f X.env)::af1 [] X.env:=by rfl) (hpl:(af9 pos (af1 [f] X.env)).any (·.1)=false:=by rfl):
  PE X (.Call (.Name "max" p) [e,f] [] pos) (S6 (λxs H Q=> ∃i j,xs= [.int i, .int j]/\Q (.int (if j>i then j else i)) H) (iq te (iq tf oS))):=
 dU (IP hc) hg hm Yk (ae he (ae hf ax RQ) hs) (he:=hs) (hpl:=hpl)
theorem Cg {apos:Pos} (hf:PE X f tf) (he:PE X e te) (hbase:agn f "append" X.env (eval f X.env)=eval f X.env:=by rfl) (hline:(apos.endLine==pos.line)=true:=by rfl) (hs:af1 [e] X.env=(false,eval e X.env)::af1 [] X.env:=by rfl)
  (hpl:((af9 pos (af1 [e] X.env)).all (λx=>!x.1)&&(agx pos (agy [] X.env)).all (λx=>x.1.isSome)&&decide (([e]:List af0).length+([]:List agk).length+(if ([]:List agk).isEmpty then 0 else 1)<30))=true:=by rfl):
  PE X (.Call (.Attribute f "append" apos) [e] [] pos) (Yz X.K "list" FA tf (iq te oS)):=
 PR lD PySem.F.slot_list_append PySem.F.type_list_append HJ hf (ae he ax hs) (hbase:=hbase) (hfew:=hpl) (hline:=hline) (hs:=hs) (hplain:=rfl)
theorem EL {apos:Pos} (hf:PE X f tf) (he:PE X e te) (hbase:agn f "extend" X.env (eval f X.env)=eval f X.env:=by rfl) (hline:(apos.endLine==pos.line)=true:=by rfl) (hs:af1 [e] X.env=(false,eval e X.env)::af1 [] X.env:=by rfl)
  (hpl:((af9 pos (af1 [e] X.env)).all (λx=>!x.1)&&(agx pos (agy [] X.env)).all (λx=>x.1.isSome)&&decide (([e]:List af0).length+([]:List agk).length+(if ([]:List agk).isEmpty then 0 else 1)<30))=true:=by rfl):
  PE X (.Call (.Attribute f "extend" apos) [e] [] pos) (Yz X.K "list" Fz tf (iq te oS)):=
 PR lD PySem.F.slot_list_extend PySem.F.type_list_extend HI hf (ae he ax hs) (hbase:=hbase) (hfew:=hpl) (hline:=hline) (hs:=hs) (hplain:=rfl)
end
end Lf
namespace Lf
def UB (ns:List Int):bT:=⟨ns.getD 0 0,ns.getD 1 0,ns.getD 2 0,ns.getD 3 0,ns.getD 4 0⟩
inductive MD (K:aa) (C:Addr) (vs:List V) (H:Hp) (Q:VK):Prop
 |mk (x dx l:Addr) (ns:List Int):vs= [.ref x, .ref l]->H x=some (.ins C dx [])->H l=some (.lst (ns.map V.int))->ns.length=5->(∀H':Hp,dB x H H'->jf K H' x (UB ns)->gF K H' x "numbers" (.ref l)->Q .fE H')->MD K C vs H Q
def Pz (K:aa) (C:Addr):Sp:=λvs H Q _=>MD K C vs H Q
section
theorem Q7:ba ["self","numbers"] ["self","numbers"] (aM (inClass (top 4) 0)):=fi
theorem SH (k:Ks K mg t):Cl P w K mg base "Segment" t.fW 1 ["self","numbers"] (Pz K t.fW):=by
 refine k.fW.go Q7 λf cl db A outer s H vs Q E hr h=>?_
 ·intro Xc;obtain ⟨x,dx,l,ns,rfl,hx,hl,h5,q⟩:=h;have nl:l≠x:=i8 hl hx rfl;have at_: ∀{H':Hp} (i:Nat),i<5->dB x H H'->∀{Q:VK},Q (.int (ns.getD i 0)) H'->NZ K (.ref l) (.int (i:Int)) H' Q:=λ{H'} i hi b {Q} q=>by
   have e:ns[i]?=some (ns.getD i 0):=by rw [bh,ao (by omega)];rfl
   exact ⟨l,_,_,_,rfl,rfl, .of (b _ _ nl hl),at_of (j:=i) rfl (ik e),q⟩
  refine ⟨_,(am (bW (pv 0) (pv 1) rfl)
   (am (bW (pv 0) (bf aY (pv 1) aF (λ_ _=>rfl)) rfl)
   (am (bW (pv 0) (bf aY (pv 1) aF (λ_ _=>rfl)) rfl)
   (am (bW (pv 0) (bf aY (pv 1) aF (λ_ _=>rfl)) rfl)
   (am (bW (pv 0) (bf aY (pv 1) aF (λ_ _=>rfl)) rfl)
   (aA (bW (pv 0) (bf aY (pv 1) aF (λ_ _=>rfl)) rfl))))))),?_⟩
  refine NK ?_
  intros
  refine ⟨_,rfl,_,rfl,sN (Ex hx) cl k.mq λH1 h1 b1=>?_⟩;refine ⟨_,rfl,at_ 0 (by decide) b1 ⟨_,rfl,sN h1 cl k.mv λH2 h2 b2=>?_⟩⟩;have b2:=b1.trans b2;refine ⟨_,rfl,at_ 1 (by decide) b2 ⟨_,rfl,sN h2 cl k.nP λH3 h3 b3=>?_⟩⟩;have b3:=b2.trans b3;refine ⟨_,rfl,at_ 2 (by decide) b3 ⟨_,rfl,sN h3 cl k.nO λH4 h4 b4=>?_⟩⟩;have b4:=b3.trans b4;refine ⟨_,rfl,at_ 3 (by decide) b4 ⟨_,rfl,sN h4 cl k.sK λH5 h5 b5=>?_⟩⟩;have b5:=b4.trans b5;refine ⟨_,rfl,at_ 4 (by decide) b5 ⟨_,rfl,sN h5 cl k.mw λH6 h6 b6=>?_⟩⟩;have b6:=b5.trans b6;have nd:(["numbers","carrier","origin","target","day","booking"]:List Str).Nodup:=by decide+kernel
  have h6:H6 x=some (.ins t.fW dx ((["numbers","carrier","origin","target","day","booking"]:List Str).zip [.ref l, .int (ns.getD 0 0), .int (ns.getD 1 0), .int (ns.getD 2 0), .int (ns.getD 3 0), .int (ns.getD 4 0)])):=h6.1;exact q H6 b6 ⟨cJ 1 nd h6 cl k.mv,cJ 2 nd h6 cl k.nP,cJ 3 nd h6 cl k.nO,cJ 4 nd h6 cl k.sK,cJ 5 nd h6 cl k.mw⟩ (cJ 0 nd h6 cl k.mq)
end
inductive GI (K:aa) (C:Addr) (vs:List V) (H:Hp) (Q:VK):Prop
 |mk (x dx l:Addr) (f:aq):vs= [.ref x, .ref l]->H x=some (.ins C dx [])->H l=some (.lst ((jW f).map V.int))->(∀H':Hp,dB x H H'->dr K H' x f->gF K H' x "numbers" (.ref l)->Q .fE H')->GI K C vs H Q
def JS (K:aa) (C:Addr):Sp:=λvs H Q _=>GI K C vs H Q
section
theorem NR:ba ["self","numbers"] ["self","numbers"] (aM (inClass (top 3) 0)):=fi
theorem Pa (k:Ks K mg t):Cl P w K mg base "Fare" t.Fare 1 ["self","numbers"] (JS K t.Fare):=by
 refine k.Fare.go NR λf cl db A outer s H vs Q E hr h=>?_
 ·intro Xc;obtain ⟨x,dx,l,f,rfl,hx,hl,q⟩:=h;have nl:l≠x:=i8 hl hx rfl;have at_: ∀{H':Hp} (i:Nat) {n:Int},(jW f)[i]?=some n->dB x H H'->∀{Q:VK},Q (.int n) H'->NZ K (.ref l) (.int (i:Int)) H' Q:=λ{H'} i {n} e b {Q} q=>
   ⟨l,_,_,_,rfl,rfl, .of (b _ _ nl hl),at_of (j:=i) rfl (ik e),q⟩
  refine ⟨_,(am (bW (pv 0) (pv 1) rfl)
   (am (bW (pv 0) (bf aY (pv 1) aF (λ_ _=>rfl)) rfl)
   (am (bW (pv 0) (bf aY (pv 1) aF (λ_ _=>rfl)) rfl)
   (am (bW (pv 0) (bf aY (pv 1) aF (λ_ _=>rfl)) rfl)
   (am (bW (pv 0) (bf aY (pv 1) aF (λ_ _=>rfl)) rfl)
   (am (bW (pv 0) (bf aY (pv 1) aF (λ_ _=>rfl)) rfl)
   (am (bW (pv 0) (bf aY (pv 1) aF (λ_ _=>rfl)) rfl)
   (am (bW (pv 0) (bf aY (pv 1) aF (λ_ _=>rfl)) rfl)
   (am (bW (pv 0) (bf aY (pv 1) aF (λ_ _=>rfl)) rfl)
   (am (bW (pv 0) (bf aY (pv 1) aF (λ_ _=>rfl)) rfl)
   (am (bW (pv 0) (bf aY (pv 1) aF (λ_ _=>rfl)) rfl)
   (am (bW (pv 0) (bf aY (pv 1) aF (λ_ _=>rfl)) rfl)
   (am (bW (pv 0) (bf aY (pv 1) aF (λ_ _=>rfl)) rfl)
   (am (bW (pv 0) (bf aY (pv 1) aF (λ_ _=>rfl)) rfl)
   (am (bW (pv 0) (bf aY (pv 1) aF (λ_ _=>rfl)) rfl)
   (aA (bW (pv 0) (bf aY (pv 1) aF (λ_ _=>rfl)) rfl))))))))))))))))),?_⟩
  refine UA ?_
  intros
  refine ⟨_,rfl,_,rfl,sN (Ex hx) cl k.qU λH1 h1 b1=>?_⟩;refine ⟨_,rfl,at_ 0 (n:=f.key) rfl b1 ⟨_,rfl,sN h1 cl k.C6 λH2 h2 b2=>?_⟩⟩;have b2:=b1.trans b2;refine ⟨_,rfl,at_ 1 (n:=f.carrier) rfl b2 ⟨_,rfl,sN h2 cl k.qW λH3 h3 b3=>?_⟩⟩;have b3:=b2.trans b3;refine ⟨_,rfl,at_ 2 (n:=f.src) rfl b3 ⟨_,rfl,sN h3 cl k.yL λH4 h4 b4=>?_⟩⟩;have b4:=b3.trans b4;refine ⟨_,rfl,at_ 3 (n:=f.dst) rfl b4 ⟨_,rfl,sN h4 cl k.C7 λH5 h5 b5=>?_⟩⟩;have b5:=b4.trans b5;refine ⟨_,rfl,at_ 4 (n:=f.way) rfl b5 ⟨_,rfl,sN h5 cl k.C5 λH6 h6 b6=>?_⟩⟩;have b6:=b5.trans b6;refine ⟨_,rfl,at_ 5 (n:=f.amount) rfl b6 ⟨_,rfl,sN h6 cl k.sW λH7 h7 b7=>?_⟩⟩;have b7:=b6.trans b7;refine ⟨_,rfl,at_ 6 (n:=f.classes) rfl b7 ⟨_,rfl,sN h7 cl k.qV λH8 h8 b8=>?_⟩⟩;have b8:=b7.trans b8;refine ⟨_,rfl,at_ 7 (n:=f.weekdays) rfl b8 ⟨_,rfl,sN h8 cl k.o0 λH9 h9 b9=>?_⟩⟩;have b9:=b8.trans b9;refine ⟨_,rfl,at_ 8 (n:=f.ahead) rfl b9 ⟨_,rfl,sN h9 cl k.mz λH10 Wh XY=>?_⟩⟩;have XY:=b9.trans XY;refine ⟨_,rfl,at_ 9 (n:=f.leastStay) rfl XY ⟨_,rfl,sN Wh cl k.my λH11 Wf XX=>?_⟩⟩;have XX:=XY.trans XX;refine ⟨_,rfl,at_ 10 (n:=f.mostStay) rfl XX ⟨_,rfl,sN Wf cl k.nW λH12 Il XW=>?_⟩⟩;have XW:=XX.trans XW;refine ⟨_,rfl,at_ 11 (n:=f.group) rfl XW ⟨_,rfl,sN Il cl k.wA λH13 h13 XV=>?_⟩⟩;have XV:=XW.trans XV;refine ⟨_,rfl,at_ 12 (n:=f.open_) rfl XV ⟨_,rfl,sN h13 cl k.nV λH14 h14 XU=>?_⟩⟩;have XU:=XV.trans XU;refine ⟨_,rfl,at_ 13 (n:=f.kinds) rfl XU ⟨_,rfl,sN h14 cl k.wz λH15 h15 XT=>?_⟩⟩;have XT:=XU.trans XT;refine ⟨_,rfl,at_ 14 (n:=f.segs) rfl XT ⟨_,rfl,sN h15 cl k.jP λH16 Az b16=>?_⟩⟩;have b16:=XT.trans b16;have nd:(["numbers","key","carrier","near","far","way","amount","classes","weekdays","days_ahead","least_stay","most_stay","group","open_ends","kinds","most_segments"]:List Str).Nodup:=by decide+kernel
  have Az:H16 x=some (.ins t.Fare dx ((["numbers","key","carrier","near","far","way","amount","classes","weekdays","days_ahead","least_stay","most_stay","group","open_ends","kinds","most_segments"]:List Str).zip [.ref l, .int f.key, .int f.carrier, .int f.src, .int f.dst, .int f.way, .int f.amount, .int f.classes, .int f.weekdays, .int f.ahead, .int f.leastStay, .int f.mostStay, .int f.group, .int f.open_, .int f.kinds, .int f.segs])):=Az.1;exact q H16 b16 ⟨cJ 1 nd Az cl k.C6,cJ 2 nd Az cl k.qW,cJ 3 nd Az cl k.yL,cJ 4 nd Az cl k.C7,cJ 5 nd Az cl k.C5,cJ 6 nd Az cl k.sW,cJ 7 nd Az cl k.qV,cJ 8 nd Az cl k.o0,cJ 9 nd Az cl k.mz,cJ 10 nd Az cl k.my,cJ 11 nd Az cl k.nW,cJ 12 nd Az cl k.wA,cJ 13 nd Az cl k.nV,cJ 14 nd Az cl k.wz,cJ 15 nd Az cl k.jP⟩ (cJ 0 nd Az cl k.qU)
inductive GH (K:aa) (C:Addr) (vs:List V) (H:Hp) (Q:VK):Prop
 |mk (x dx l:Addr) (n:Int):vs= [.ref x, .int n, .ref l]->H x=some (.ins C dx [])->(∀H':Hp,dB x H H'->gF K H' x "now" (.int n)->gF K H' x "segments" (.ref l)->Q .fE H')->GH K C vs H Q
def JR (K:aa) (C:Addr):Sp:=λvs H Q _=>GH K C vs H Q
theorem NP:ba ["self","now","segments"] ["self","now","segments"] (aM (inClass (top 5) 0)):=fi
theorem O9 (k:Ks K mg t):Cl P w K mg base "Journey" t.Journey 1 ["self","now","segments"] (JR K t.Journey):=by
 refine k.Journey.go NP λf cl db A outer s H vs Q E hr h=>?_
 ·intro Xc;obtain ⟨x,dx,l,n,rfl,hx,q⟩:=h;refine ⟨_,(am (bW (pv 0) (pv 1) rfl) (aA (bW (pv 0) (pv 2) rfl))),?_⟩;refine ⟨_,rfl,_,rfl,sN (Ex hx) cl k.sP λH1 h1 b1=>?_⟩;refine ⟨_,rfl,_,rfl,sN h1 cl k.lx λH2 h2 b2=>?_⟩;have nd:(["now","segments"]:List Str).Nodup:=by decide+kernel
  have h2:H2 x=some (.ins t.Journey dx ((["now","segments"]:List Str).zip [.int n, .ref l])):=h2.1;exact q H2 (b1.trans b2) (cJ 0 nd h2 cl k.sP) (cJ 1 nd h2 cl k.lx)
end
end Lf
namespace Lf
def Oq (L:List (Int×Int)):List (List Key×V):=L.map λx=>([az x.1,az x.2],V.bl true)
theorem uB (g h:Int): ∀(L:List (Int×Int)),cr (Oq L) [az g,az h]=if L.contains (g,h)=true then some (.bl true) else none
 | []=>rfl
 |(a,b)::L=>by
  have ih:=uB g h L;unfold cr Oq at ih⊢;rw [bb,List.contains_cons];by_cases e:(a,b)=(g,h)
  ·cases e;rw [mV (by simp)];simp
  ·have e2: ¬([az a,az b]:List Key)= [az g,az h]:=λz=>by
    simp only [eJ,kH,and_true] at z;exact e (by rw [z.1,z.2])
   rw [iw (by simpa using e2),ih];have e3:((g,h)==(a,b))=false:=by
    rw [beq_eq_false_iff_ne];exact λz=>e z.symm
   rw [e3];rfl
def diag (n:Nat):List (Int×Int):=(bv n).map λi:Nat=>((i:Int),(i:Int))
theorem II (n:Nat):diag (n+1)=diag n++ [((n:Int),(n:Int))]:=by unfold diag;rw [dW,aP];rfl
theorem Mo (n:Nat):cr (Oq (diag n)) [az (n:Int),az (n:Int)]=none:=by
 rw [uB,if_neg];intro h;have h:=eL.mp h;unfold diag at h;obtain ⟨i,hi,e⟩:=aj.mp h;have:=bE.mp hi;simp only [gQ] at e;omega
inductive CO (K:aa) (C:Addr) (vs:List V) (H:Hp) (Q:VK):Prop
 |mk (x dx:Addr):vs= [.ref x]->H x=some (.ins C dx [])->(∀(H':Hp) (h:HA),h.a=x->dB x H H'->aZ K H' h d6 []->(∀b∈h.foot,b≠x->H b=none)->Q .fE H')->CO K C vs H Q
def Fp (K:aa) (C:Addr):Sp:=λvs H Q _=>CO K C vs H Q
section
theorem Ks.VG (k:Ks K mg t) (cl:E5 K t.iX):WU K t.iX:=⟨cl,k.sV,k.jO,k.qT,k.sU,k.nR,k.wy,k.oZ⟩
theorem A4:ba ["self","group"] ["self"] (aM (inClass (top 6) 0)):=fi
theorem Ms (k:Ks K mg t) (c:Cs mg) (b:Bl mg):Cl P w K mg base "House" t.iX 1 ["self"] (Fp K t.iX):=by
 refine k.iX.go A4 λf cl db A outer s H vs Q E hr h=>?_
 ·intro Xc;obtain ⟨x,dx,rfl,hx,q⟩:=h;have hu:=jH hr;refine ⟨_,(am (bW (pv 0) vf rfl)
   (am (bW (pv 0) Bu rfl)
   (am (dk PassesOwn.never rfl (rM rfl b.range (ae (kj c.GROUPS) ax)) (gn 1 A4.nd)
    (aA (lR hu (aT (pv 0) rfl) (fB (ae (pv 1) (ae (pv 1) ax))) iu rfl)))
   (am (bW (pv 0) Bu rfl)
   (am (bW (pv 0) vf rfl)
   (am (bW (pv 0) (bX Rk (bJ (ae aF ax)) (kj c.WR)) rfl)
   (am (bW (pv 0) aF rfl)
   (aA (bW (pv 0) lS rfl))))))))),?_⟩
  refine Uz ?_
  intros
  intro pf VF;refine ⟨_,rfl,sN (Ex (bm hx (aG hx VF))) cl k.sV λH1 h1 b1=>?_⟩;have f1:H1 pf=some (.dK []):=b1 _ _ (aG hx VF).symm ak;have B1:dB x H H1:=dB.trans (aD.but (aD.new VF)) b1;intro pt M6;refine ⟨_,rfl,sN ⟨bm h1.1 (aG h1.1 M6),h1.2⟩ cl k.jO λH2 h2 b2=>?_⟩;have U6:pf≠x:=(aG hx VF).symm;have PU:pt≠x:=(aG h1.1 M6).symm;have t2:H2 pt=some (.dT []):=b2 _ _ PU ak;have f2:H2 pf=some (.dK []):=b2 _ _ U6 (bm f1 (aG f1 M6));have B2:dB x H H2:=(B1.trans (aD.but (aD.new M6))).trans b2;have Rm:H pt=none:=by
   cases z:H pt with
   |none=>rfl
   |some o=>rw [B1 _ _ PU z] at M6;cases M6
  refine ⟨_,rfl,by decide,by decide,g8 (n:=(8:Int).toNat) (λi σ H'=>(∃v,σ= [some (.ref x),v])/\dB pt H2 H'/\H' pt=some (.dT (Oq (diag i)))) ⟨⟨_,rfl⟩,λ_ _ _ e=>e,t2⟩ ?_ ?_⟩
  ·rintro _ _ _ i σ H' hi ⟨⟨v,rfl⟩,bt,ht⟩;have KZ:=bt _ _ PU.symm h2.1;have hi:i<8:=hi;refine ⟨_,rfl,aL ⟨_,_,_,KZ,cl,k.jO,rfl⟩ ⟨_,rfl,_,rfl,(by show 2<=sizeLine;decide),λp hp=>?_⟩⟩;have ZP:pt≠p:=aG ht hp;refine ⟨pt,_,rfl,nX.t (k:= [az (i:Int),az (i:Int)]) (bm ht ZP) ?_ ?_,⟨_,rfl⟩,?_,?_⟩
   ·rw [ak,oi];rfl
   ·unfold Oq diag;rw [ab,ab,bZ];exact bu hi (by decide)
   ·exact (bt.trans (aD.but (aD.new hp))).trans dB.upd
   ·rw [ak,qx _ (Mo i),II];unfold Oq;rw [aP];rfl
  ·rintro σ H3 ⟨⟨v,rfl⟩,bt,ht⟩;have h3:=bt _ _ PU.symm h2.1;have f3:H3 pf=some (.dK []):=bt _ _ (i8 f2 t2 rfl) f2;intro po M7;refine ⟨_,rfl,sN ⟨bm h3 (aG h3 M7),h2.2⟩ cl k.qT λH4 h4 b4=>?_⟩;have HH:po≠x:=(aG h3 M7).symm;have f4:H4 pf=some (.dK []):=b4 _ _ U6 (bm f3 (aG f3 M7));have t4:H4 pt=some (.dT (Oq (diag 8))):=b4 _ _ PU (bm ht (aG ht M7));have o4:H4 po=some (.dT []):=b4 _ _ HH ak;have nto:pt≠po:=aG ht M7;intro px pP;refine ⟨_,rfl,sN ⟨bm h4.1 (aG h4.1 pP),h4.2⟩ cl k.sU λH5 h5 b5=>?_⟩;have U2:px≠x:=(aG h4.1 pP).symm;have f5:H5 pf=some (.dK []):=b5 _ _ U6 (bm f4 (aG f4 pP));have t5:H5 pt=some (.dT (Oq (diag 8))):=b5 _ _ PU (bm t4 (aG t4 pP));have o5:H5 po=some (.dT []):=b5 _ _ HH (bm o4 (aG o4 pP));have x5:H5 px=some (.dK []):=b5 _ _ U2 ak;have Zg:pf≠px:=aG f4 pP;refine ⟨(by show 1<=sizeLine;decide),λl hl=>⟨l,_,_,rfl,rfl,ak,by decide,by decide,(by show 1*5<=sizeLine;decide),λp hp=>?_⟩⟩;have x1:=bm (o':= .lst [V.int 100]) h5.1 (aG h5.1 hl);have nl: ∀{a:Addr} {o:HO},H5 a=some o->a≠p:=λ{a o} z=>aG (bm (o':= .lst [V.int 100]) z (aG z hl)) hp;refine ⟨_,rfl,sN ⟨bm x1 (nl h5.1),h5.2⟩ cl k.nR λH6 h6 b6=>?_⟩;have up: ∀{a:Addr} {o:HO},a≠x->H5 a=some o->H6 a=some o:=λ{a o} n z=>b6 _ _ n (bm (bm z (aG z hl)) (nl z));have Dk:p≠x:=(nl h5.1).symm;have p6:H6 p=some (.lst (d6.percents.map V.int)):=b6 _ _ Dk (by rw [ak];rfl);refine ⟨_,rfl,sN h6 cl k.wy λH7 h7 b7=>?_⟩;refine ⟨_,rfl,sN h7 cl k.oZ λH8 h8 b8=>?_⟩;have TL:dB x H6 H8:=b7.trans b8;have B8:dB x H H8:=λa o n z=>by
    have z2:=B2 a o n z;have z3:=bt a o (λe=>by rw [e,Rm] at z;cases z) z2;have z4:=b4 a o n (bm z3 (aG z3 M7));have z5:=b5 a o n (bm z4 (aG z4 pP));exact TL a o n (up n z5)
   let h:HA:=⟨x,dx,t.iX,pf,pt,po,px,p,x⟩
   refine q H8 h rfl B8 ⟨JH,k.VG cl,mP _,⟨.fE,h8.1,rfl⟩,⟨[],TL _ _ U6 (up U6 f5),bQ.nil,bQ.nil⟩,⟨_,TL _ _ PU (up PU t5),?_,?_,?_⟩,⟨[],TL _ _ HH (up HH o5),mP _⟩,⟨[],TL _ _ U2 (up U2 x5),mP _⟩,TL _ _ Dk p6,Zg,nto⟩ ?_
   ·show ((Oq (diag 8)).map (·.1)).Nodup;decide+kernel
   ·intro key hk;obtain ⟨y,hy,e⟩:=aj.mp hk;obtain ⟨z,hz,e2⟩:=aj.mp hy;obtain ⟨i,hi,e3⟩:=aj.mp hz;have:=bE.mp hi;subst e e2 e3;exact ⟨(i:Int),(i:Int),rfl,by omega,by omega,by omega,by omega⟩
   ·intro g g';rw [uB,show diag 8=d6.combos from by decide+kernel];cases d6.combos.contains (g,g')<;>rfl
   ·intro a ha fZ;have fr: ∀{a:Addr} {o:HO},a≠x->H2 a=none->H a=none:=λ{a o} n z=>by
     cases y:H a with
     |none=>rfl
     |some o=>rw [B2 _ _ n y] at z;cases z
    rcases aB.mp ha with e|ha
    ·exact absurd e fZ
    rcases aB.mp ha with e|ha
    ·rw [show a=pf from e];exact VF
    rcases aB.mp ha with e|ha
    ·rw [show a=pt from e];exact Rm
    rcases aB.mp ha with e|ha
    ·rw [show a=po from e];cases y:H po with
     |none=>rfl
     |some o=>rw [bt _ _ (λe=>by rw [e,Rm] at y;cases y) (B2 _ _ HH y)] at M7;cases M7
    rcases aB.mp ha with e|ha
    ·rw [show a=px from e];cases y:H px with
     |none=>rfl
     |some o=>
      have z3:=bt _ _ (λe=>by rw [e,Rm] at y;cases y) (B2 _ _ U2 y);rw [b4 _ _ U2 (bm z3 (aG z3 M7))] at pP;cases pP
    rcases aB.mp ha with e|ha
    ·rw [show a=p from e];cases y:H p with
     |none=>rfl
     |some o=>
      have z3:=bt _ _ (λe=>by rw [e,Rm] at y;cases y) (B2 _ _ Dk y);have z4:=b4 _ _ Dk (bm z3 (aG z3 M7));have z5:=b5 _ _ Dk (bm z4 (aG z4 pP));rw [bm z5 (aG z5 hl)] at hp;cases hp
    ·cases ha
end
end Lf
namespace Lf
open Vbahaf (bitOf)
inductive CU (vs:List V) (H:Hp) (Q:VK):Prop
 |mk (m k:Int):vs= [.int m, .int k]->0<=k->Q (.bl (bitOf m k)) H->CU vs H Q
def ub:Sp:=λvs H Q _=>CU vs H Q
def takes (f:aq) (gs:List bT):Bool:=gs.all λs=>(decide (f.carrier= -1)||decide (s.carrier=f.carrier))&&bitOf f.classes s.cls
inductive CJ (K:aa) (vs:List V) (H:Hp) (Q:VK):Prop
 |mk (fa la:Addr) (as:List Addr) (f:aq) (gs:List bT):vs= [.ref fa, .ref la]->dr K H fa f->H la=some (.lst (as.map V.ref))->bQ (jf K H) as gs->(∀g∈gs,0<=g.cls)->Q (.bl (takes f gs)) H->CJ K vs H Q
def Fj (K:aa):Sp:=λvs H Q _=>CJ K vs H Q
section
theorem J3:ba ["mask","digit"] ["mask","digit"] (aM (top 44)):=fi
theorem LU (D:Dn K mg "has_digit" (top 44) ["mask","digit"]):Fn P w K mg base "has_digit" 1 ["mask","digit"] ub:=by
 refine D.go J3 λf db A outer s H vs Q E hr h=>?_
 ·intro Xc;obtain ⟨m,k,rfl,hk,q⟩:=h;refine ⟨_,aA (aX (dG fV (bX zt (bX Kz (pv 0) (pv 1)) aF) aF (bS _))),?_⟩;refine ⟨_,rfl,_,rfl,_,_,rfl,rfl,hk,_,_,rfl,rfl,rfl,?_⟩;refine cj q ?_;show bitOf m k=decide (V.int (Builtin.bitAnd (m/2^k.toNat) 1)=V.int 1);rw [dV,bitAnd_m1];rfl
theorem A2:ba ["fare","segments","segment"] ["fare","segments"] (aM (top 45)):=fi
theorem LB (D:Dn K mg "takes_segments" (top 45) ["fare","segments"]) (G1:Fn P w K mg base "has_digit" 1 ["mask","digit"] ub) (c:Ci mg "ANY_CARRIER" (-1)):Fn P w K mg base "takes_segments" 2 ["fare","segments"] (Fj K):=by
 refine D.go A2 λf db A outer s H vs Q E hr h=>?_
 ·intro Xc;obtain ⟨fa,la,as,f,gs,rfl,hf,hl,hs,hc,q⟩:=h;refine ⟨_,(am (dk PassesOwn.never rfl (cC (pv 1)) (gn 2 A2.nd)
    (am (cE (pG (cB vj (aT (pv 0) rfl) (kj c) (bS _)) (lQ (cB vj (aT (pv 0) rfl) (aT (pv 2) rfl) (bS _)))).pt
    (aA (aX iu))
    bI)
   (aA (cE (ii (eK (pc G1 hr (ae (aT (pv 0) rfl) (ae (aT (pv 2) rfl) ax)))))
    (aA (aX iu))
    bI))))
   (aA (aX iu))),?_⟩
  refine ⟨_,rfl,la,rfl,⟨_, .of hl⟩,eQ (K:=K) (a:=la) (xs:=as.map V.ref) (λi σ H'=>H'=H/\takes f (gs.take i)=true/\∃v,σ= [some (.ref fa),some (.ref la),v]) ⟨rfl,rfl,_,rfl⟩ (λi σ H' _ zz=>by rw [zz.1];exact .of hl) ?_ ?_⟩
  ·rintro _ _ _ i x σ H' hx ⟨rfl,ht,v,rfl⟩;obtain ⟨a,ha,rfl⟩:=b0 hx;obtain ⟨g,hg,sa⟩:=hs.get' ha;have ht':((decide (f.carrier= -1)||decide (g.carrier=f.carrier))&&bitOf f.classes g.cls)=true->takes f (gs.take (i+1))=true:=λe=>by
    unfold takes at ht⊢;rw [di hg,ic,ht,gb,e];rfl
   have hF:((decide (f.carrier= -1)||decide (g.carrier=f.carrier))&&bitOf f.classes g.cls)=false->takes f gs=false:=λe=>by
    unfold takes;rw [iA];exact ⟨g,aH hg,by rw [e];exact aI⟩
   have two:(decide (f.carrier= -1)||decide (g.carrier=f.carrier))=true->Uj (Ue (tB (Fb ub [] E0 (iq (NA K (yZ 0) "classes") (iq (NA K (yZ 2) "booking") oS))))) (Ub (tC (V.bl false))) Pw
     {nx:=λσ SV=>SV=H'/\takes f (gs.take (i+1))=true/\∃v,σ= [some (.ref fa),some (.ref la),v],rt:=Q,bk:=λ_ _=>False,ct:=λ_ _=>False} [some (.ref fa),some (.ref la),some (.ref a)] H':=λh=>by
    refine ⟨_,rfl,aL hf.classes ⟨_,rfl,aL sa.uk ⟨_,_,rfl,hc g (aH hg),_,rfl,?_⟩⟩⟩;refine ip (λh1=>?_) (λh1=>?_)
    ·have h1:bitOf f.classes g.cls=false:=by simpa using h1
     exact cj q (hF (by rw [h,h1];rfl))
    ·have h1:bitOf f.classes g.cls=true:=by simpa using h1
     exact ⟨rfl,ht' (by rw [h,h1];rfl),_,rfl⟩
   refine ⟨_,rfl,aL hf.carrier ⟨rfl,_,rfl,?_⟩⟩;by_cases h1:f.carrier= -1
   ·refine Td h1 ?_;exact tF (two (by simp [h1]))
   ·refine neT h1 ⟨_,rfl,aL hf.carrier ⟨_,rfl,aL sa.carrier ⟨rfl,_,rfl,?_⟩⟩⟩;by_cases h2:f.carrier=g.carrier
    ·rw [dV,decide_eq_true h2];exact tF (two (by simp [h2]))
    ·rw [dV,decide_eq_false h2];exact oT (cj q (hF (by have: ¬g.carrier=f.carrier:=λz=>h2 z.symm;simp [h1,this])))
  ·rintro σ H' ⟨rfl,ht,v,rfl⟩;rw [ab,hs.1,bo] at ht;rw [ht] at q;exact q
end
end Lf
namespace Lf
open Vbahaf (bitOf cut srcOf dstOf dayOf suits single outward homeward)
inductive MF (K:aa) (ok:ai->Int->aq->cw->Bool) (vs:List V) (H:Hp) (Q:VK):Prop
 |mk (fa ca:Addr) (f:aq) (s:ag) (j:ai) (i e:Nat) (af:Int) (B:Addr->Prop):vs= [.ref fa, .ref ca, .int af]->dr K H fa f->d9 K H B s j i e ca->0<=af->X2 j->Q (.bl (ok j af f (cut j i e))) H->MF K ok vs H Q
def j6 (K:aa) (ok:ai->Int->aq->cw->Bool):Sp:=λvs H Q _=>MF K ok vs H Q
inductive GJ (K:aa) (ok:aq->cw->Bool) (vs:List V) (H:Hp) (Q:VK):Prop
 |mk (fa ca:Addr) (f:aq) (s:ag) (j:ai) (i e:Nat) (B:Addr->Prop):vs= [.ref fa, .ref ca]->dr K H fa f->d9 K H B s j i e ca->Q (.bl (ok f (cut j i e))) H->GJ K ok vs H Q
def uQ (K:aa) (ok:aq->cw->Bool):Sp:=λvs H Q _=>GJ K ok vs H Q
def jq (f:aq) (c:cw):Bool:=decide (f.src=srcOf c)&&decide (f.dst=dstOf c)
def k6 (f:aq) (c:cw):Bool:=decide (f.dst=srcOf c)&&decide (f.src=dstOf c)
theorem Q4 {j:ai} (h:X2 j) {g:bT} (hg:g∈j.segs):(0<=g.carrier/\g.carrier<=675)/\(0<=g.src/\g.src<=17575)/\(0<=g.dst/\g.dst<=17575)/\(0<=g.day/\g.day<=36524)/\(0<=g.cls/\g.cls<=25):=by
 have:=h.seg g hg;unfold jx Vbahaf.airportIn rm at this;simp only [aU,cM] at this;obtain ⟨⟨⟨⟨a,b⟩,c⟩,d⟩,e⟩:=this;exact ⟨a,b,c,d,e⟩
theorem On {j:ai} {i e:Nat} {g:bT} (h:g∈cut j i e):g∈j.segs:=List.mem_of_mem_drop (GS h)
theorem JF (j:ai) (af:Int) (f:aq) (c:cw):suits j af f c=(bitOf f.kinds af&&(bitOf f.weekdays ((dayOf c+5)%7)&&(decide ((c.length:Int)<=f.segs)&&(decide (f.ahead<=dayOf c-j.now)&&takes f c)))):=by
 unfold suits Vbahaf.weekday takes;rw [Int.add_sub_cancel];cases bitOf f.kinds af<;>cases bitOf f.weekdays ((dayOf c+5)%7)<;>cases decide ((c.length:Int)<=f.segs)<;>cases decide (f.ahead<=dayOf c-j.now)<;>simp
section
theorem JU:ba ["fare","component","kind"] ["fare","component","kind"] (aM (top 46)):=fi
theorem LC (D:Dn K mg "suits" (top 46) ["fare","component","kind"]) (G1:Fn P w K mg base "has_digit" 1 ["mask","digit"] ub) (G2:Fn P w K mg base "takes_segments" 2 ["fare","segments"] (Fj K)) (b:Bl mg) (c:Ci mg "SATURDAY_DIGIT" 5):
  Fn P w K mg base "suits" 3 ["fare","component","kind"] (j6 K suits):=by
 refine D.go JU λf db A outer s H vs Q E hr h=>?_
 ·intro Xc;obtain ⟨fa,ca,f,st,j,i,e,af,B,rfl,hf,hc,hk,hj,q⟩:=h;obtain ⟨la,as,_,h1,h2,h3⟩:=hc.segs;refine ⟨_,(aA (aX (d7 (pc G1 hr (ae (aT (pv 0) rfl) (ae (pv 2) ax))) (d7 (pc G1 hr (ae (aT (pv 0) rfl) (ae (bX D4 (bX fD (aT (pv 1) rfl) (kj c)) aF) ax)))
   (d7 (dG vm (iV b.len (aT (pv 1) rfl)) (aT (pv 0) rfl) (bS _)) (d7 (dG FN (aT (pv 1) rfl) (aT (pv 0) rfl) (bS _)) (jD (pc G2 hr (ae (pv 0) (ae (aT (pv 1) rfl) ax)))))))))),?_⟩
  have key:=JF j af f (cut j i e);have hlen:as.length=(cut j i e).length:=h3.1;refine ⟨_,rfl,aL hf.kinds ⟨_,rfl,_,_,rfl,hk,_,rfl,?_⟩⟩;refine ip (λe1=>?_) (λe1=>cj q (by rw [key,e1];rfl));refine ⟨_,rfl,aL hf.weekdays ⟨_,rfl,aL hc.day ⟨_,_,rfl,rfl,_,_,rfl,rfl,(by show (0:Int)<7;decide),_,_,rfl,Int.emod_nonneg _ (by decide),_,rfl,?_⟩⟩⟩;refine ip (λe2=>?_) (λe2=>cj q (by rw [key,e1,e2];rfl));refine ⟨_,rfl,aL h1 ⟨la,_,rfl, .inl (.of h2),_,rfl,aL hf.iK ⟨_,_,rfl,rfl,_,rfl,?_⟩⟩⟩;rw [ab,hlen];refine ip (λe3=>?_) (λe3=>cj q (by rw [key,e1,e2,e3];rfl));refine ⟨_,rfl,aL hc.yp ⟨_,rfl,aL hf.l8 ⟨_,_,rfl,rfl,_,rfl,?_⟩⟩⟩;refine ip (λe4=>?_) (λe4=>cj q (by rw [key,e1,e2,e3,e4];rfl));refine ⟨_,rfl,_,rfl,aL h1 ⟨fa,la,as,f,_,rfl,hf,h2,h3,λg hg=>(Q4 hj (On hg)).2.2.2.2.1,?_⟩⟩;exact cj q (by rw [key,e1,e2,e3,e4];rfl)
theorem NO:ba ["fare","component"] ["fare","component"] (aM (top 47)):=fi
theorem OU (D:Dn K mg "leads_out" (top 47) ["fare","component"]):Fn P w K mg base "leads_out" 1 ["fare","component"] (uQ K jq):=by
 refine D.go NO λf db A outer s H vs Q E hr h=>?_
 ·intro Xc;obtain ⟨fa,ca,f,st,j,i,e,B,rfl,hf,hc,q⟩:=h;refine ⟨_,(aA (aX (d7 (dG fV (aT (pv 0) rfl) (aT (pv 1) rfl) (bS _)) (jD (dG fV (aT (pv 0) rfl) (aT (pv 1) rfl) (bS _)))))),?_⟩;refine ⟨_,rfl,aL hf.near ⟨_,rfl,aL hc.origin ⟨rfl,_,rfl,?_⟩⟩⟩;rw [dV];refine ip (λe1=>?_) (λe1=>cj q (by unfold jq;rw [e1];rfl));refine ⟨_,rfl,aL hf.TF ⟨_,rfl,aL hc.target ⟨rfl,?_⟩⟩⟩;exact cj q (by unfold jq;rw [dV,e1];rfl)
theorem JZ:ba ["fare","component"] ["fare","component"] (aM (top 48)):=fi
theorem LN (D:Dn K mg "leads_home" (top 48) ["fare","component"]):Fn P w K mg base "leads_home" 1 ["fare","component"] (uQ K k6):=by
 refine D.go JZ λf db A outer s H vs Q E hr h=>?_
 ·intro Xc;obtain ⟨fa,ca,f,st,j,i,e,B,rfl,hf,hc,q⟩:=h;refine ⟨_,(aA (aX (d7 (dG fV (aT (pv 0) rfl) (aT (pv 1) rfl) (bS _)) (jD (dG fV (aT (pv 0) rfl) (aT (pv 1) rfl) (bS _)))))),?_⟩;refine ⟨_,rfl,aL hf.TF ⟨_,rfl,aL hc.origin ⟨rfl,_,rfl,?_⟩⟩⟩;rw [dV];refine ip (λe1=>?_) (λe1=>cj q (by unfold k6;rw [e1];rfl));refine ⟨_,rfl,aL hf.near ⟨_,rfl,aL hc.target ⟨rfl,?_⟩⟩⟩;exact cj q (by unfold k6;rw [dV,e1];rfl)
theorem Hk:ba ["fare","component","kind"] ["fare","component","kind"] (aM (top 49)):=fi
theorem Iy (D:Dn K mg "fits_singly" (top 49) ["fare","component","kind"]) (G1:Fn P w K mg base "leads_out" 1 ["fare","component"] (uQ K jq)) (G2:Fn P w K mg base "suits" 3 ["fare","component","kind"] (j6 K suits)) (c:Ci mg "ONE_WAY" 0):
  Fn P w K mg base "fits_singly" 4 ["fare","component","kind"] (j6 K single):=by
 refine D.go Hk λf db A outer s H vs Q E hr h=>?_
 ·intro Xc;obtain ⟨fa,ca,f,st,j,i,e,af,B,rfl,hf,hc,hk,hj,q⟩:=h;have key:single j af f (cut j i e)=(decide (f.way=0)&&(jq f (cut j i e)&&suits j af f (cut j i e))):=by unfold single jq;simp only [yR]
  refine ⟨_,(aA (aX (d7 (dG fV (aT (pv 0) rfl) (kj c) (bS _)) (d7 (pc G1 hr (ae (pv 0) (ae (pv 1) ax))) (jD (pc G2 hr (ae (pv 0) (ae (pv 1) (ae (pv 2) ax))))))))),?_⟩;refine ⟨_,rfl,aL hf.way ⟨rfl,_,rfl,?_⟩⟩;rw [dV];refine ip (λe1=>?_) (λe1=>cj q (by rw [key,e1];rfl));refine ⟨_,rfl,_,rfl,fa,ca,f,st,j,i,e,B,rfl,hf,hc,_,rfl,?_⟩;refine ip (λe2=>?_) (λe2=>cj q (by rw [key,e1,e2];rfl));refine ⟨_,rfl,_,rfl,_,rfl,fa,ca,f,st,j,i,e,af,B,rfl,hf,hc,hk,hj,?_⟩;exact cj q (by rw [key,e1,e2];rfl)
theorem NQ:ba ["fare","component","kind"] ["fare","component","kind"] (aM (top 50)):=fi
theorem OV (D:Dn K mg "fits_out" (top 50) ["fare","component","kind"]) (G1:Fn P w K mg base "leads_out" 1 ["fare","component"] (uQ K jq)) (G2:Fn P w K mg base "suits" 3 ["fare","component","kind"] (j6 K suits)) (c:Ci mg "HALF_OF_RETURN" 1):
  Fn P w K mg base "fits_out" 4 ["fare","component","kind"] (j6 K outward):=by
 refine D.go NQ λf db A outer s H vs Q E hr h=>?_
 ·intro Xc;obtain ⟨fa,ca,f,st,j,i,e,af,B,rfl,hf,hc,hk,hj,q⟩:=h;have key:outward j af f (cut j i e)=(decide (f.way=1)&&(jq f (cut j i e)&&suits j af f (cut j i e))):=by unfold outward jq;simp only [yR]
  refine ⟨_,(aA (aX (d7 (dG fV (aT (pv 0) rfl) (kj c) (bS _)) (d7 (pc G1 hr (ae (pv 0) (ae (pv 1) ax))) (jD (pc G2 hr (ae (pv 0) (ae (pv 1) (ae (pv 2) ax))))))))),?_⟩;refine ⟨_,rfl,aL hf.way ⟨rfl,_,rfl,?_⟩⟩;rw [dV];refine ip (λe1=>?_) (λe1=>cj q (by rw [key,e1];rfl));refine ⟨_,rfl,_,rfl,fa,ca,f,st,j,i,e,B,rfl,hf,hc,_,rfl,?_⟩;refine ip (λe2=>?_) (λe2=>cj q (by rw [key,e1,e2];rfl));refine ⟨_,rfl,_,rfl,_,rfl,fa,ca,f,st,j,i,e,af,B,rfl,hf,hc,hk,hj,?_⟩;exact cj q (by rw [key,e1,e2];rfl)
theorem J2:ba ["fare","component","kind"] ["fare","component","kind"] (aM (top 51)):=fi
theorem LS (D:Dn K mg "fits_home" (top 51) ["fare","component","kind"]) (G1:Fn P w K mg base "leads_home" 1 ["fare","component"] (uQ K k6)) (G2:Fn P w K mg base "suits" 3 ["fare","component","kind"] (j6 K suits)) (c:Ci mg "HALF_OF_RETURN" 1):
  Fn P w K mg base "fits_home" 4 ["fare","component","kind"] (j6 K homeward):=by
 refine D.go J2 λf db A outer s H vs Q E hr h=>?_
 ·intro Xc;obtain ⟨fa,ca,f,st,j,i,e,af,B,rfl,hf,hc,hk,hj,q⟩:=h;have key:homeward j af f (cut j i e)=(decide (f.way=1)&&(k6 f (cut j i e)&&suits j af f (cut j i e))):=by unfold homeward k6;simp only [yR]
  refine ⟨_,(aA (aX (d7 (dG fV (aT (pv 0) rfl) (kj c) (bS _)) (d7 (pc G1 hr (ae (pv 0) (ae (pv 1) ax))) (jD (pc G2 hr (ae (pv 0) (ae (pv 1) (ae (pv 2) ax))))))))),?_⟩;refine ⟨_,rfl,aL hf.way ⟨rfl,_,rfl,?_⟩⟩;rw [dV];refine ip (λe1=>?_) (λe1=>cj q (by rw [key,e1];rfl));refine ⟨_,rfl,_,rfl,fa,ca,f,st,j,i,e,B,rfl,hf,hc,_,rfl,?_⟩;refine ip (λe2=>?_) (λe2=>cj q (by rw [key,e1,e2];rfl));refine ⟨_,rfl,_,rfl,_,rfl,fa,ca,f,st,j,i,e,af,B,rfl,hf,hc,hk,hj,?_⟩;exact cj q (by rw [key,e1,e2];rfl)
end
end Lf
namespace Lf
open Vbahaf (bitOf cut srcOf dstOf dayOf points pay)
inductive GG (K:aa) (vs:List V) (H:Hp) (Q:VK):Prop
 |mk (h:HA) (s:ag) (fl:List aq) (af:Int) (fa ca:Addr) (f:aq) (j:ai) (i e:Nat) (B:Addr->Prop):vs= [.ref h.a, .int af, .ref fa, .ref ca]->aZ K H h s fl->(0<=af/\af<=4)->dr K H fa f->f∈s.fares->d9 K H B s j i e ca->Q (.int (pay s af f (cut j i e))) H->GG K vs H Q
def DT (K:aa):Sp:=λvs H Q _=>GG K vs H Q
theorem ui {s:ag} (ok:kE s) {f:aq} (h:f∈s.fares):(0<=f.key/\f.key<=999999999)/\(-1<=f.carrier/\f.carrier<=675)/\(0<=f.way/\f.way<=1)/\(0<=f.amount/\f.amount<=1000000000)/\(0<=f.group/\f.group<=7)/\(0<=f.open_/\f.open_<=3):=by
 have:=(ok.fr f h).1;unfold Vbahaf.fareIn mG Vbahaf.MONEY at this;simp only [aU,cM] at this;obtain ⟨⟨⟨⟨⟨⟨⟨⟨⟨⟨⟨⟨⟨⟨a,b⟩,c⟩,d⟩,e⟩,g⟩,h⟩,i⟩,j⟩,k⟩,l⟩,m⟩,n⟩,o⟩,p⟩:=this;exact ⟨a,b,e,g,m,n⟩
theorem Rh {s:ag} (ok:kE s) {af:Int} (h0:0<=af) (h4:af<=4): ∃p,s.percents[af.toNat]?=some p/\s.percents.getD af.toNat 0=p/\0<=p/\p<=200:=by
 have hl:af.toNat<s.percents.length:=by rw [ok.pl];omega
 have e:=ao hl;refine ⟨_,e,?_,ok.pr _ (uv hl)⟩;rw [bh,e];rfl
section
theorem uf:ba ["house","kind","fare","component","amount","divisor","rounded_up"] ["house","kind","fare","component"] (aM (top 52)):=fi
theorem OP (D:Dn K mg "pays" (top 52) ["house","kind","fare","component"]) (b:Bl mg):Fn P w K mg base "pays" 1 ["house","kind","fare","component"] (DT K):=by
 refine D.go uf λf db A outer s H vs Q E hr h=>?_
 ·intro Xc;obtain ⟨h,s,fl,af,fa,ca,f,j,i,e,B,rfl,hh,⟨P6,hk4⟩,hf,hm,hc,q⟩:=h;obtain ⟨v,hv,Zp⟩:=hc.floor;obtain ⟨p,hp,hpd,hp0,Ib⟩:=Rh hh.ok P6 hk4;have hu:=hh.ok.un;refine ⟨_,(am (st 4 uf.nd (WB rfl b.max (aT (pv 2) rfl) (aT (pv 3) rfl)))
   (am (st 5 uf.nd (bX vk aF (aT (pv 0) rfl)))
   (am (st 6 uf.nd (bX Ob (bX fU (bX fD (bX vk (pv 4) (bf aY (aT (pv 0) rfl) (pv 1) (λ_ _=>rfl))) (pv 5)) aF) (pv 5)))
   (aA (aX (bX vk (pv 6) (aT (pv 0) rfl))))))),?_⟩
  refine mL ?_
  intros
  refine ⟨_,rfl,aL hf.amount ⟨_,rfl,aL hv ⟨_,_,rfl,?_⟩⟩⟩;refine ⟨_,rfl,aL hh.Qj ⟨_,_,rfl,rfl, .inl ⟨by decide,by decide⟩,?_⟩⟩;refine ⟨_,rfl,_,rfl,aL hh.yo ⟨_,rfl,h.p,_,af,_,rfl,rfl, .of hh.percents,at_of (j:=af.toNat) (by omega) (ik hp),_,_,rfl,rfl, .inr ⟨by omega,by omega⟩,_,rfl,_,_,rfl,rfl,_,_,rfl,rfl,_,rfl,_,_,rfl,rfl,⟨?_,?_⟩,?_⟩⟩
  ·show (0:Int)<100*s.unit;omega
  ·show 100*s.unit<1073741824;omega
  ·refine ⟨_,rfl,_,rfl,aL hh.Qj ⟨_,_,rfl,rfl, .inr ⟨by omega,by omega⟩,?_⟩⟩;refine as_int q ?_;unfold pay;rw [jI hh.ok (ui hh.ok hm).2.2.2.1.1 Zp];unfold Vbahaf.part;rw [hpd]
def iM (H:Hp) (s:ag) (af:Int) (c:cw) (l:Addr) (z:List (Addr×aq)):Prop:= ∃ps:List Addr,H l=some (.lst (ps.map V.ref))/\bQ (λp x=>H p=some (.tup [.int (pay s af x.2 c), .ref x.1])) ps z
theorem iM.but {H H':Hp} {s:ag} {af:Int} {c:cw} {l x C dx:Addr} {fx:List (Str×V)} {z:List (Addr×aq)} (h:iM H s af c l z) (hx:H x=some (.ins C dx fx)) (b:dB x H H'):iM H' s af c l z:=by
 obtain ⟨ps,h1,h2⟩:=h;exact ⟨ps,b _ _ (i8 h1 hx rfl) h1,h2.mono λ_ _ y=>b _ _ (i8 y hx rfl) y⟩
theorem iM.mono {H H':Hp} {s:ag} {af:Int} {c:cw} {l:Addr} {z:List (Addr×aq)} (h:iM H s af c l z) (b:aD H H'):iM H' s af c l z:=by
 obtain ⟨ps,h1,h2⟩:=h;exact ⟨ps,b _ _ h1,h2.mono λ_ _ y=>b _ _ y⟩
theorem iM.full {K:aa} {B:Addr->Prop} {H:Hp} {s:ag} {af:Int} {c:cw} {l:Addr} {gH:List Addr} {fs:List aq} (h:iM H s af c l (gH.zip fs)) (hf:bQ (dr K H) gH fs) (hB: ¬B l):fX K H B s af c l fs:=by
 obtain ⟨ps,h1,h2,h3⟩:=h;refine ⟨hB,ps,h1,?_,λi p f hp M8=>?_⟩
 ·rw [h2,dX,hf.1];exact tU _
 ·obtain ⟨fa,R0,rV⟩:=hf.get M8;exact ⟨fa,h3 i p (fa,f) hp (cf.mpr ⟨R0,M8⟩),rV⟩
inductive sR (K:aa) (vs:List V) (H:Hp) (Q:VK):Prop
 |mk (h:HA) (s:ag) (fl:List aq) (af:Int) (ca la:Addr) (j:ai) (i e:Nat) (gH:List Addr) (fs:List aq) (B:Addr->Prop):vs= [.ref h.a, .int af, .ref ca, .ref la]->aZ K H h s fl->(0<=af/\af<=4)->d9 K H B s j i e ca->H la=some (.lst (gH.map V.ref))->bQ (dr K H) gH fs->(∀f∈fs,f∈s.fares)->fs.length<=60->(∀(H':Hp) (l:Addr),aD H H'->H l=none->iM H' s af (cut j i e) l (gH.zip fs)->Q (.ref l) H')->sR K vs H Q
def uL (K:aa):Sp:=λvs H Q _=>sR K vs H Q
theorem DV:ba ["house","kind","component","fares","fare"] ["house","kind","component","fares"] (aM (top 53)):=fi
theorem Sh (D:Dn K mg "offers_by" (top 53) ["house","kind","component","fares"]) (G:Fn P w K mg base "pays" 1 ["house","kind","fare","component"] (DT K)):Fn P w K mg base "offers_by" 2 ["house","kind","component","fares"] (uL K):=by
 refine D.go DV λf db A outer s H vs Q E hr h=>?_
 ·intro Xc;obtain ⟨h,s,fl,af,ca,la,j,i,e,gH,fs,B,rfl,hh,hk,hc,hl,M8,hm,xm,q⟩:=h;refine ⟨_,(aA (aX (ir rfl DV.nd (cC (pv 3)) (cT (own:= [("fare",4)]) (by kernel_rfl))
   (λ_ _ _ _ _=>(gn 4 DV.nd)) (λ_ _ _ _ _=>eY)
   (λ_ _ _ _ _=>(fB (ae (pc G hr (ae (pv 0) (ae (pv 1) (ae (pv 4) (ae (pv 2) ax))))) (ae (pv 4) ax))))))),?_⟩
  refine ⟨_,rfl,la,rfl,⟨_, .of hl⟩,λD hD=>fG (K:=K) (a:=la) (xs:=gH.map V.ref) (λn H'=>aD H H'/\iM H' s af (cut j i e) D ((gH.zip fs).take n)) ⟨aD.new hD,[],ak,bQ.nil⟩ (λn H' _ zz=> .of (zz.1 _ _ hl)) ?_ ?_⟩
  ·rintro _ _ _ _ n x H' hx ⟨sm,ps,hp,ho⟩;obtain ⟨fa,ha,rfl⟩:=b0 hx;obtain ⟨f,hf,rV⟩:=M8.get' ha;have hz:(gH.zip fs)[n]?=some (fa,f):=cf.mpr ⟨ha,hf⟩;refine ⟨rfl,?_⟩;refine ⟨_,rfl,_,rfl,_,rfl,_,rfl,h,s,fl,af,fa,ca,f,j,i,e,B,rfl,hh.mono sm,hk,rV.mono sm,hm f (aH hf),hc.mono sm,_,rfl,(by show 2<=sizeLine;decide),λp F5=>?_⟩;refine ⟨ps.map V.ref,bm hp (aG hp F5),?_,aD.put (sm.trans (aD.new F5)) hD,ps++ [p],?_,?_⟩
   ·rw [ab,ho.1,bc,dX];exact cu (aV (dj _ _) (aV (dj _ _) xm)) (by decide)
   ·rw [ak,dP]
   ·rw [di hz];exact (ho.mono λa b z=>vH z F5 (i8 z hp rfl)).snoc (by rw [bK (aG hp F5).symm,ak])
  ·rintro H' ⟨sm,ho⟩;rw [ab,ck (by rw [dX];exact oP _ _)] at ho;exact q H' D sm hD ho
end
end Lf
namespace Lf
open Vbahaf (bitOf cut srcOf dstOf dayOf points pay)
theorem qj {κ:Type} [DecidableEq κ]: ∀{kvs:List (κ×V)} {k:κ} {v:V},(kvs.map (·.1)).Nodup->(k,v)∈kvs->cr kvs k=some v
 | [],_,_,_,h=>by cases h
 |(a,b)::kvs,k,v,nd,h=>by
  have nd:(a::kvs.map (·.1)).Nodup:=nd;obtain ⟨n1,n2⟩:=bj.mp nd;unfold cr;by_cases e:a=k
  ·subst e;rcases aB.mp h with e|h
   ·cases e;rw [mV (by simp)];rfl
   ·exact absurd (aj.mpr ⟨(a,v),h,rfl⟩) n1
  ·rw [iw (by simpa using e)];rcases aB.mp h with e'|h
   ·cases e';exact absurd rfl e
   ·exact qj n2 h
theorem qi {κ:Type} [DecidableEq κ] {kvs:List (κ×V)} {k:κ} {v:V} (h:cr kvs k=some v):(k,v)∈kvs:=by
 unfold cr at h;cases q:kvs.find? (λkv=>decide (kv.1=k)) with
 |none=>rw [q] at h;cases h
 |some p=>
  rw [q] at h;cases h;have h1:=fY q;have h2:=cV q;have e:p.1=k:=by simpa using h1
  rw [<-e];exact h2
theorem aZ.OY {K:aa} {H:Hp} {h:HA} {s:ag} {fl:List aq} (x:aZ K H h s fl): ∃kvs:List (List Key×V),H h.o=some (.dT kvs)/\∀a b:Int,(cr kvs [az a,az b]).getD (.int 0)= .int (EH s a b):=by
 obtain ⟨kvs,h1,h2⟩:=x.floors;have nd:(kvs.map (·.1)).Nodup:=by
  refine (h2.map _).nodup_iff.mpr ?_;rw [bi];refine ij (f:=λk:List Key=>(k.getD 0 (az 0),k.getD 1 (az 0))) ?_;rw [bi];have:=ju (f:=λx:Int×Int=>((az x.1:Key),(az x.2:Key))) (λa b e=>by
   obtain ⟨a1,a2⟩:=a;obtain ⟨b1,b2⟩:=b;simp only [gQ,kH] at e;rw [e.1,e.2]) x.ok.os
  rw [bi] at this;exact this
 refine ⟨kvs,h1,λa b=>?_⟩;cases q:cr kvs [az a,az b] with
 |some v=>
  have:=h2.mem_iff.mp (qi q);obtain ⟨⟨p,r,t⟩,hm,e⟩:=aj.mp this;simp only [gQ,eJ,kH,and_true] at e;obtain ⟨⟨rfl,rfl⟩,rfl⟩:=e;show V.int t=_;rw [Cc x.ok hm]
 |none=>
  show V.int 0=_;rw [LY λv hm=>?_];have:=qj nd (h2.mem_iff.mpr (aj.mpr ⟨(a,b,v),hm,rfl⟩));rw [q] at this;cases this
def si (s:ag) (m8:List Int) (L E:Nat) (g:Int):Prop:=
 0<=g/\(∀(i k:Nat) (x y:Int),i<k->(k<L∨(k=L/\i<E))->m8[i]?=some x->m8[k]?=some y->EH s x y<=g)/\(g=0∨∃(i k:Nat) (x y:Int),i<k/\m8[i]?=some x/\m8[k]?=some y/\g=EH s x y)
theorem si.start (s:ag) (m8:List Int):si s m8 1 0 0:=⟨wX _,λi k x y h1 h2=>by omega, .inl rfl⟩
theorem si.row {s:ag} {m8:List Int} {L:Nat} {g:Int} (h:si s m8 L L g):si s m8 (L+1) 0 g:=
 ⟨h.1,λi k x y h1 h2 hx hy=>h.2.1 i k x y h1 (by omega) hx hy,h.2.2⟩
theorem si.one {s:ag} {m8:List Int} {L E:Nat} {g x y:Int} (h:si s m8 L E g) (hE:E<L) (hx:m8[E]?=some x) (hy:m8[L]?=some y):si s m8 L (E+1) (if EH s x y>g then EH s x y else g):=by
 obtain ⟨h0,h1,h2⟩:=h;by_cases c:EH s x y>g
 ·rw [if_pos c];refine ⟨by omega,λi k x' y' l1 l2 KZ KY=>?_, .inr ⟨E,L,x,y,hE,hx,hy,rfl⟩⟩;by_cases e:k=L/\i=E
  ·obtain ⟨rfl,rfl⟩:=e;rw [hx] at KZ;rw [hy] at KY;cases KZ;cases KY;omega
  ·have:=h1 i k x' y' l1 (by omega) KZ KY;omega
 ·rw [if_neg c];refine ⟨h0,λi k x' y' l1 l2 KZ KY=>?_,h2⟩;by_cases e:k=L/\i=E
  ·obtain ⟨rfl,rfl⟩:=e;rw [hx] at KZ;rw [hy] at KY;cases KZ;cases KY;omega
  ·exact h1 i k x' y' l1 (by omega) KZ KY
theorem si.done {s:ag} {m8:List Int} {L:Nat} {g:Int} (h:si s m8 L 0 g) (hl:m8.length<=L):uo s m8 g:=
 ⟨h.1,λi k x y h1 hx hy=>h.2.1 i k x y h1 (by have:=(aJ.mp hy).1;omega) hx hy,h.2.2⟩
inductive CQ (K:aa) (vs:List V) (H:Hp) (Q:VK):Prop
 |mk (h:HA) (s:ag) (fl:List aq) (la:Addr) (as:List Addr) (gs:List bT):vs= [.ref h.o, .ref la]->aZ K H h s fl->H la=some (.lst (as.map V.ref))->bQ (jf K H) as gs->0<gs.length->gs.length<=8->(∀(H':Hp) (v:Int),aD H H'->uo s (points gs) v->Q (.int v) H')->CQ K vs H Q
def Fs (K:aa):Sp:=λvs H Q _=>CQ K vs H Q
section
theorem iP:ba ["floors","segments","points","greatest","later","earlier","segment"] ["floors","segments"] (aM (top 43)):=fi
theorem LO (D:Dn K mg "greatest_floor" (top 43) ["floors","segments"]) (b:Bl mg):Fn P w K mg base "greatest_floor" 1 ["floors","segments"] (Fs K):=by
 refine D.go iP λf db A outer s H vs Q E hr h=>?_
 ·intro Xc;obtain ⟨h,s,fl,la,as,gs,rfl,hh,hl,hs,h0,h8,q⟩:=h;have hu:=jH hr;obtain ⟨g0,La⟩: ∃g0,gs[0]?=some g0:=⟨_,ao h0⟩
  obtain ⟨a0,TB,S8⟩:=hs.get La;have Sr:srcOf gs=g0.src:=by
   cases gs with
   |nil=>cases La
   |cons x r=>cases La;rfl
  refine ⟨_,(am (st 2 iP.nd (bX pJ (bJ (ae (aT (bf aY (pv 1) aF (λ_ _=>rfl)) rfl) ax)) (ir rfl iP.nd (cC (pv 1)) (cT (own:= [("segment",6)]) (by kernel_rfl))
    (λ_ _ _ _ _=>(gn 6 iP.nd)) (λ_ _ _ _ _=>eY)
    (λ_ _ _ _ _=>(eF K (pv 6))))))
   (am (st 3 iP.nd aF)
   (am (dk PassesOwn.never rfl (iC rfl b.range (ae aF (ae (iV b.len (pv 2)) ax))) (gn 4 iP.nd)
    (aA (dk PassesOwn.never rfl (rM rfl b.range (ae (pv 4) ax)) (gn 5 iP.nd)
    (aA (st 3 iP.nd (WB rfl b.max (pv 3) (qA hu (pv 0) (fB (ae (bf aY (pv 2) (pv 5) (λ_ _=>rfl)) (ae (bf aY (pv 2) (pv 4) (λ_ _=>rfl)) ax))) aF ⟨rfl,rfl,rfl,rfl⟩)))))))
   (aA (aX (pv 3)))))),?_⟩
  refine mL ?_
  intros
  refine ⟨_,rfl,la,_,0,_,rfl,rfl, .of hl,at_of (j:=0) rfl (cg TB),aL S8.origin ⟨(by show 1<=sizeLine;decide),λl1 hl1=>?_⟩⟩;have s1:aD H (upd H l1 (.lst [.int g0.src])):=aD.new hl1;refine ⟨_,rfl,la,rfl,⟨_, .of (s1 _ _ hl)⟩,λD hD=>fG (K:=K) (a:=la) (xs:=as.map V.ref) (λn H'=>aD (upd H l1 (.lst [.int g0.src])) H'/\H' D=some (.lst (((gs.map λs=>s.dst).take n).map V.int))) ⟨aD.new hD,ak⟩ (λn H' _ zz=> .of (zz.1 _ _ (s1 _ _ hl))) ?_ ?_⟩
  ·rintro _ _ _ _ n x H' hx ⟨sm,hp⟩;obtain ⟨a,ha,rfl⟩:=b0 hx;obtain ⟨g,hg,sa⟩:=hs.get' ha;refine ⟨rfl,⟨_,rfl,aL ((sa.mono s1).mono sm).target ⟨_,hp,?_,aD.put sm hD,?_⟩⟩⟩
   ·rw [ab,bc,ab];exact cu (aV (dj _ _) h8) (by decide)
   ·rw [ak,di (x:=g.dst) (by rw [bp,hg];rfl), <-ints_snoc]
  ·rintro H1 ⟨sm,hp⟩;rw [ab,hs.1,ck (by rw [ab];exact ay _)] at hp;have Z5:H1 l1=some (.lst [.int g0.src]):=sm _ _ ak;refine ⟨l1,D,_,_,rfl,rfl,Z5,hp,?_,λlp B0=>?_⟩
   ·rw [ab,ab];exact aV (Jn h8 _) (by show 1+8<=sizeLine;decide)
   have eP: [V.int g0.src] ++(gs.map λs=>s.dst).map V.int=(points gs).map V.int:=by
    unfold points;rw [Sr];rfl
   rw [eP];have s2:aD H (upd H1 lp (.lst ((points gs).map V.int))):=(s1.trans sm).trans (aD.new B0);have VE:(points gs).length=gs.length+1:=by unfold points;rw [aS,ab]
   obtain ⟨kvs,F6,aaa⟩:=hh.OY;refine ⟨_,rfl,lp,_,rfl, .inl (.of ak),1,_,rfl,⟨by decide,by decide,by omega,?_⟩,?_⟩
   ·rw [ab,VE];omega
   refine g8 (lo:=1) (λn σ H'=>aD (upd H1 lp (.lst ((points gs).map V.int))) H'/\∃g v4 v5,si s (points gs) (n+1) 0 g/\σ= [some (.ref h.o),some (.ref la),some (.ref lp),some (.int g),v4,v5,none]) ⟨aD.refl _,0,none,none,si.start _ _,rfl⟩ ?_ ?_
   ·rintro _ _ _ n σ H2 hn ⟨YE,g,v4,v5,up,rfl⟩;have hn:n+1<(points gs).length:=by
     rw [ab] at hn;omega
    obtain ⟨y,hy⟩: ∃y,(points gs)[n+1]?=some y:=⟨_,ao hn⟩
    refine ⟨_,rfl,_,rfl,by omega,by omega,?_⟩;refine g8 (lo:=0) (n:=(1+(n:Int)).toNat) (λm σ H'=>aD (upd H1 lp (.lst ((points gs).map V.int))) H'/\∃g v5,si s (points gs) (n+1) m g/\σ= [some (.ref h.o),some (.ref la),some (.ref lp),some (.int g),some (.int (1+n)),v5,none]) ⟨YE,g,v5,up,rfl⟩ ?_ ?_
    ·rintro _ _ _ m σ H3 hm ⟨Ux,g,v5,up,rfl⟩;have hm:m<n+1:=by omega
     obtain ⟨x,hx⟩: ∃x,(points gs)[m]?=some x:=⟨_,ao (by omega)⟩
     have VS:H3 lp=some (.lst ((points gs).map V.int)):=Ux _ _ ak;have Xv:H3 h.o=some (.dT kvs):=Ux _ _ (s2 _ _ F6);refine ⟨_,rfl,_,rfl,h.o,rfl, .inr ⟨kvs, .inl Xv⟩,_,rfl,_,rfl,lp,_,_,_,rfl,rfl, .of VS,at_of (j:=m) (by omega) (ik hx),_,rfl,_,rfl,lp,_,_,_,rfl,rfl, .of VS,at_of (j:=n+1) (by omega) (ik hy),(by show 2<=sizeLine;decide),λp hp=>?_⟩;have s4:aD H3 (upd H3 p (.tup [.int x, .int y])):=aD.new hp;refine ⟨_,j0.t (k:= [az x,az y]) (s4 _ _ Xv) ak,?_⟩;rw [aaa x y];refine ⟨_,_,rfl,Ux.trans s4,_,_,up.one hm hx hy,rfl⟩
    ·rintro σ H3 ⟨Ux,g,v5,up,rfl⟩;have e:(1+(n:Int)).toNat=n+1:=by omega
     rw [e] at up;exact ⟨Ux,g,_,_,up.row,rfl⟩
   ·rintro σ H2 ⟨YE,g,v4,v5,up,rfl⟩;refine ⟨_,rfl,?_⟩;refine q H2 g (s2.trans YE) (up.done ?_);rw [ab];omega
end
end Lf
namespace Lf
open Vbahaf (cut srcOf dstOf dayOf points)
theorem IL {as:List Addr} {i e:Nat} (h1:i<=e) (h2:e<=as.length) {a b:Int} (ha:a=(i:Int)) (hb:b=(e:Int)):rY (as.map V.ref) (some a) (some b)=((as.drop i).take (e-i)).map V.ref:=by
 subst ha hb;unfold rY;have e1:HT.zh (as.map V.ref).length 0 (some (i:Int))=i:=by
  show (if (i:Int)<0 then ((i:Int)+((as.map V.ref).length:Int)).toNat else min (i:Int).toNat (as.map V.ref).length)=i;rw [if_neg (by omega),ab];omega
 have e2:HT.zh (as.map V.ref).length (as.map V.ref).length (some (e:Int))=e:=by
  show (if (e:Int)<0 then ((e:Int)+((as.map V.ref).length:Int)).toNat else min (e:Int).toNat (as.map V.ref).length)=e;rw [if_neg (by omega),ab];omega
 rw [e1,e2,S1,S3]
theorem oJ {as:List Int} {i e:Nat} (h1:i<=e) (h2:e<=as.length) {a b:Int} (ha:a=(i:Int)) (hb:b=(e:Int)):rY (as.map V.int) (some a) (some b)=((as.drop i).take (e-i)).map V.int:=by
 subst ha hb;unfold rY;have e1:HT.zh (as.map V.int).length 0 (some (i:Int))=i:=by
  show (if (i:Int)<0 then ((i:Int)+((as.map V.int).length:Int)).toNat else min (i:Int).toNat (as.map V.int).length)=i;rw [if_neg (by omega),ab];omega
 have e2:HT.zh (as.map V.int).length (as.map V.int).length (some (e:Int))=e:=by
  show (if (e:Int)<0 then ((e:Int)+((as.map V.int).length:Int)).toNat else min (e:Int).toNat (as.map V.int).length)=e;rw [if_neg (by omega),ab];omega
 rw [e1,e2,S1,S3]
theorem Ph {xs:List V} {v:V} (h:xs[xs.length-1]?=some v):Jl xs (-1)=some v:=by
 have hl:=(aJ.mp h).1;unfold Jl;have e:Jh xs.length (-1)=some (xs.length-1):=by
  unfold Jh;rw [if_neg (by decide),if_pos (by omega)]
  congr 1
  omega
 rw [e];exact h
theorem QZ {gs:List bT} {g:bT} (h:gs[0]?=some g):srcOf gs=g.src/\dayOf gs=g.day:=by
 cases gs with
 |nil=>cases h
 |cons x r=>cases h;exact ⟨rfl,rfl⟩
theorem SA {gs:List bT} {g:bT} (h:gs[gs.length-1]?=some g):dstOf gs=g.dst:=by
 unfold dstOf;rw [List.getLast?_eq_getElem?,h]
theorem O5 {j:ai} {i e:Nat} (h1:i<e) (h2:e<=j.segs.length):(cut j i e).length=e-i:=by
 unfold cut;rw [bc,mJ];omega
inductive GK (K:aa) (C:Addr) (vs:List V) (H:Hp) (Q:VK):Prop
 |mk (x dx:Addr) (H0:Hp) (h:HA) (s:ag) (fl:List aq) (j:ai) (i e:Nat) (a b:Int):vs= [.ref x, .ref h.a, .int a, .int b]->a=(i:Int)->b=(e:Int)-1->H x=some (.ins C dx [])->aD H0 H->H0 x=none->aZ K H0 h s fl->s.journey=some j->i<e->e<=j.segs.length->(∀H':Hp,aD H0 H'->d9 K H' (λb=> ∃o,H b=some o) s j i e x->Q .fE H')->GK K C vs H Q
def y9 (K:aa) (C:Addr):Sp:=λvs H Q _=>GK K C vs H Q
section
theorem NS:ba ["self","house","first","last"] ["self","house","first","last"] (aM (inClass (top 41) 0)):=fi
theorem Pb (k:Ks K mg t) (G:Fn P w K mg base "greatest_floor" 1 ["floors","segments"] (Fs K)):Cl P w K mg base "Component" t.cK 2 ["self","house","first","last"] (y9 K t.cK):=by
 refine k.cK.go NS λf cl db A outer s H vs Q E hr h=>?_
 ·intro Xc;obtain ⟨x,dx,H0,h,s,fl,j,i,e,a,b,rfl,ea,eb,hx,sm,hn,hh,hj,hie,he,q⟩:=h;obtain ⟨ja,fj,HW⟩:=hh.il hj;obtain ⟨BQ,l,as,Tr,Gb,hl,hs,_⟩:=HW;have hlen:as.length=j.segs.length:=hs.1;have h8:=(hh.ok.jo j hj).ge;refine ⟨_,(am (bW (pv 0) (pv 2) rfl)
   (am (bW (pv 0) (pv 3) rfl)
   (am (bW (pv 0) (qz uc (aT (aT (pv 1) rfl) rfl) (iJ (pv 2)) (iJ (bX fD (pv 3) aF))) rfl)
   (am (bW (pv 0) (aT (bf aY (aT (pv 0) rfl) aF (λ_ _=>rfl)) rfl) rfl)
   (am (bW (pv 0) (aT (bf aY (aT (pv 0) rfl) (ve pj aF) (λ_ _=>rfl)) rfl) rfl)
   (am (bW (pv 0) (aT (bf aY (aT (pv 0) rfl) aF (λ_ _=>rfl)) rfl) rfl)
   (am (bW (pv 0) (bX fU (aT (pv 0) rfl) (aT (aT (pv 1) rfl) rfl)) rfl)
   (aA (bW (pv 0) (pc G hr (ae (aT (pv 1) rfl) (ae (aT (pv 0) rfl) ax))) rfl))))))))),?_⟩
  refine Uz ?_
  intros
  refine ⟨_,rfl,_,rfl,sN (Ex hx) cl k.mE λH1 h1 b1=>?_⟩;have s1:=dB.same sm hn b1;refine ⟨_,rfl,_,rfl,sN h1 cl k.nY λH2 h2 b2=>?_⟩;have s2:=dB.same s1 hn b2;refine ⟨_,rfl,aL (fj.mono s2) (aL (Gb.mono s2) ⟨_,rfl,a,rfl,_,rfl,_,_,rfl,rfl,b+1,rfl,l,_,rfl, .of (s2 _ _ hl),λp hp=>?_⟩)⟩;rw [IL (i:=i) (e:=e) (by omega) (by omega) ea (by omega)];refine ⟨_,rfl,sN ⟨bm h2.1 (aG h2.1 hp),h2.2⟩ cl k.dC λH3 h3 b3=>?_⟩;have Dk:p≠x:=(aG h2.1 hp).symm;have s3:=dB.same (s2.trans (aD.new hp)) hn b3;have p3:H3 p=some (.lst (((as.drop i).take (e-i)).map V.ref)):=b3 _ _ Dk ak;have Lg:bQ (jf K H0) ((as.drop i).take (e-i)) (cut j i e):=hs.cut i (e-i);have xl:=O5 hie he;have hal:((as.drop i).take (e-i)).length=e-i:=by rw [Lg.1,xl]
  obtain ⟨g0,La⟩: ∃g0,(cut j i e)[0]?=some g0:=⟨_,ao (by omega)⟩
  obtain ⟨a0,TB,S8⟩:=Lg.get La;obtain ⟨gl,hgl⟩: ∃gl,(cut j i e)[(cut j i e).length-1]?=some gl:=⟨_,ao (by omega)⟩
  obtain ⟨al,aap,sal⟩:=Lg.get hgl;obtain ⟨Sr,Wy⟩:=QZ La;have aaD:=SA hgl;refine ⟨_,rfl,aL ⟨_,_,_,h3.1,cl,k.dC,rfl⟩ ⟨p,_,0,_,rfl,rfl, .of p3,at_of (j:=0) rfl (cg TB),aL (S8.origin.mono s3) ⟨_,rfl,sN h3 cl k.lB λH4 h4 b4=>?_⟩⟩⟩;have s4:=dB.same s3 hn b4;have p4:=b4 _ _ Dk p3;refine ⟨_,rfl,aL ⟨_,_,_,h4.1,cl,k.dC,rfl⟩ ⟨_,rfl,p,_, -1,_,rfl,rfl, .of p4,Ph ?_,aL (sal.target.mono s4) ⟨_,rfl,sN h4 cl k.lA λH5 h5 b5=>?_⟩⟩⟩
  ·have el:e-i-1=(cut j i e).length-1:=by omega
   rw [ab,hal,el];exact cg aap
  have s5:=dB.same s4 hn b5;have p5:=b5 _ _ Dk p4;refine ⟨_,rfl,aL ⟨_,_,_,h5.1,cl,k.dC,rfl⟩ ⟨p,_,0,_,rfl,rfl, .of p5,at_of (j:=0) rfl (cg TB),aL (S8.day.mono s5) ⟨_,rfl,sN h5 cl k.kG λH6 h6 b6=>?_⟩⟩⟩;have s6:=dB.same s5 hn b6;have p6:=b6 _ _ Dk p5;refine ⟨_,rfl,aL ⟨_,_,_,h6.1,cl,k.kG,rfl⟩ ⟨_,rfl,aL (fj.mono s6) (aL (BQ.mono s6) ⟨_,_,rfl,rfl,_,rfl,sN h6 cl k.jg λH7 h7 b7=>?_⟩)⟩⟩;have s7:=dB.same s6 hn b7;have p7:=b7 _ _ Dk p6;refine ⟨_,rfl,aL (hh.mono s7).Gc ⟨_,rfl,aL ⟨_,_,_,h7.1,cl,k.dC,rfl⟩ ⟨h,s,fl,p,_,cut j i e,rfl,hh.mono s7,p7,Lg.mono λ_ _ z=>z.mono s7,by omega,by omega,λH8 v YD Zp=>?_⟩⟩⟩;refine ⟨_,rfl,sN ⟨YD _ _ h7.1,h7.2⟩ cl k.mD λH9 h9 b9=>?_⟩;have s9:=dB.same (s7.trans YD) hn b9;have p9:=b9 _ _ Dk (YD _ _ p7);have nd:(["first","last","segments","origin","target","day","days_left","floor"]:List Str).Nodup:=by decide+kernel
  have h9:H9 x=some (.ins t.cK dx ((["first","last","segments","origin","target","day","days_left","floor"]:List Str).zip [.int a, .int b, .ref p, .int g0.src, .int gl.dst, .int g0.day, .int (g0.day-j.now), .int v])):=h9.1;have hnb: ¬∃o,H p=some o:=λzz=>by
   obtain ⟨o,z⟩:=zz;rw [b2 _ _ Dk (b1 _ _ Dk z)] at hp;cases hp
  refine q H9 s9 ⟨⟨hie,he⟩,?_,?_,⟨p,_,hnb,cJ 2 nd h9 cl k.dC,p9,Lg.mono λ_ _ z=>z.mono s9⟩,?_,?_,?_,?_,v,cJ 7 nd h9 cl k.mD,Zp⟩
  ·rw [<-ea];exact cJ 0 nd h9 cl k.mE
  ·rw [<-eb];exact cJ 1 nd h9 cl k.nY
  ·rw [Sr];exact cJ 3 nd h9 cl k.lB
  ·rw [aaD];exact cJ 4 nd h9 cl k.lA
  ·rw [Wy];exact cJ 5 nd h9 cl k.kG
  ·rw [Wy];exact cJ 6 nd h9 cl k.jg
end
end Lf
namespace Lf
open Vbahaf (cut single outward homeward)
theorem Mw {α β γ:Type} {R:α->β->Prop} {g:γ->α} {h:γ->β} {z:List γ} (k: ∀p∈z,R (g p) (h p)):bQ R (z.map g) (z.map h):=by
 refine ⟨by rw [ab,ab],λi a b ha hb=>?_⟩;rw [bp] at ha hb;cases e:z[i]? with
 |none=>rw [e] at ha;cases ha
 |some p=>
  rw [e] at ha hb;cases ha;cases hb;exact k p (aH e)
theorem KJ {α β:Type} {R:α->β->Prop} {as:List α} {bs:List β} (h:bQ R as bs) {p:α×β} (hp:p∈as.zip bs):R p.1 p.2:=by
 obtain ⟨i,hi⟩:=gG hp;rw [cf] at hi;exact h.2 i _ _ hi.1 hi.2
def zR (ok:aq->Bool) (z:List (aq×Addr)):List Addr:=(z.filter λx=>ok x.1).map (·.2)
theorem yl (ok:aq->Bool) (z:List (aq×Addr)) (f:aq) (a:Addr):zR ok (z++ [(f,a)])=if ok f=true then zR ok z++ [a] else zR ok z:=by
 unfold zR;rw [cD,aP,br];cases ok f<;>simp
theorem oI {R:aq->Addr->Prop} {fl:List aq} {gH:List Addr} (h:bQ R fl gH) (ok:aq->Bool):bQ (λa f=>R f a) (zR ok (fl.zip gH)) (fl.filter ok):=by
 have e:fl.filter ok=((fl.zip gH).filter λx=>ok x.1).map (·.1):=by
  have e1:(fl.zip gH).map (·.1)=fl:=ut (by rw [h.1];exact ay _)
  conv=>lhs;rw [<-e1]
  rw [ib];rfl
 rw [e];unfold zR;exact Mw λp hp=>KJ h (au.mp hp).1
theorem KS {fl:List aq} {gH:List Addr} (h:fl.length=gH.length):(HU fl gH).map (·.2)=gH.map V.ref:=by
 unfold HU;rw [bi];have e:(fl.zip gH).map (·.2)=gH:=List.map_snd_zip (by rw [h];exact ay _)
 conv=>rhs;rw [<-e]
 rw [bi];rfl
theorem rZ {K:aa} {ok:ai->Int->aq->cw->Bool} {H:Hp} {Q:VK} {x ha ca lf:Addr} {af:Int} {fl:List aq} {gH:List Addr} {s:ag} {j:ai} {i e:Nat} {B:Addr->Prop}
  (hl:H lf=some (.lst (gH.map V.ref))) (hf:bQ (λf a=>dr K H a f) fl gH) (hc:d9 K H B s j i e ca) (hk:0<=af) (hj:X2 j) (xm:fl.length<=60)
  (k: ∀(H':Hp) (D:Addr),aD H H'->H' D=some (.lst ((zR (λf=>ok j af f (cut j i e)) (fl.zip gH)).map V.ref))->Q (.ref D) H'):
  Uh (P1 K (yZ 4)) (vQ 5) (tB (Fb (j6 K ok) [] E0 (iq (yZ 5) (iq (yZ 3) (iq (yZ 2) oS))))) (yZ 5) [5] [some (.ref x),some (.ref ha),some (.int af),some (.ref ca),some (.ref lf),none] H Q:=by
 refine ⟨_,rfl,lf,rfl,⟨_, .of hl⟩,λD hD=>fG (K:=K) (a:=lf) (xs:=gH.map V.ref) (λn H'=>aD H H'/\H' D=some (.lst ((zR (λf=>ok j af f (cut j i e)) ((fl.zip gH).take n)).map V.ref))) ⟨aD.new hD,ak⟩ (λn H' _ zz=> .of (zz.1 _ _ hl)) ?_ ?_⟩
 ·rintro _ _ _ _ n y H' hy ⟨sm,hd⟩;obtain ⟨fa,R0,rfl⟩:=b0 hy;obtain ⟨f,hfl,rV⟩:=hf.get R0;have hz:(fl.zip gH)[n]?=some (f,fa):=cf.mpr ⟨hfl,R0⟩;refine ⟨rfl,⟨_,rfl,_,rfl,_,rfl,fa,ca,f,s,j,i,e,af,B,rfl,rV.mono sm,hc.mono sm,hk,hj,_,rfl,?_⟩⟩;refine ip (λh1=>?_) (λh1=>?_)
  ·refine ⟨_,rfl,_,hd,?_,aD.put sm hD,?_⟩
   ·rw [ab];unfold zR;rw [ab];refine cu (aO _ _) ?_;rw [bc,dX];exact cu (aV (dj _ _) (aV (oP _ _) xm)) (by decide)
   ·rw [ak,di hz,yl,if_pos h1,dP]
  ·refine ⟨sm,?_⟩;rw [di hz,yl,if_neg (by rw [h1];exact aI)];exact hd
 ·rintro H' ⟨sm,hd⟩;rw [ab, <-hf.1,ck (by rw [dX];exact oP _ _)] at hd;exact k H' D sm hd
inductive yE (K:aa) (C:Addr) (vs:List V) (H:Hp) (Q:VK):Prop
 |mk (x dx ca:Addr) (H0:Hp) (h:HA) (s:ag) (fl:List aq) (j:ai) (i e:Nat) (af:Int) (B:Addr->Prop):vs= [.ref x, .ref h.a, .int af, .ref ca]->H x=some (.ins C dx [])->aD H0 H->H0 x=none->aZ K H0 h s fl->d9 K H0 B s j i e ca->s.journey=some j->(0<=af/\af<=4)->(∀H':Hp,aD H0 H'->dq K H' (λb=>B b/\∃o,H b=some o) s fl j af i e x->Q .fE H')->yE K C vs H Q
def uM (K:aa) (C:Addr):Sp:=λvs H Q _=>yE K C vs H Q
section
theorem m7:ba ["self","house","kind","component","fares","f"] ["self","house","kind","component"] (aM (inClass (top 42) 0)):=fi
theorem SI (k:Ks K mg t) (b:Bl mg) (G1:Fn P w K mg base "offers_by" 2 ["house","kind","component","fares"] (uL K)) (G2:Fn P w K mg base "fits_singly" 4 ["fare","component","kind"] (j6 K single)) (G3:Fn P w K mg base "fits_out" 4 ["fare","component","kind"] (j6 K outward))
  (G4:Fn P w K mg base "fits_home" 4 ["fare","component","kind"] (j6 K homeward)):Cl P w K mg base "Offers" t.im 5 ["self","house","kind","component"] (uM K t.im):=by
 refine k.im.go m7 λf cl db A outer s H vs Q E hr h=>?_
 ·intro Xc;obtain ⟨x,dx,ca,H0,h,s,fl,j,i,e,af,B,rfl,hx,sm,hn,hh,hc,hj,hk,q⟩:=h;have hJ:=hh.ok.jo j hj;obtain ⟨gH,R1,Jj,_⟩:=hh.fares;have xm:fl.length<=60:=by rw [hh.perm.length_eq];exact hh.ok.fl
  refine ⟨_,(am (st 4 m7.nd (xW (r9 rfl) rfl b.list uq (ae (HB (aT (pv 1) rfl)) ax)))
   (am (bW (pv 0) (pv 3) rfl)
   (am (bW (pv 0) (pc G1 hr (ae (pv 1) (ae (pv 2) (ae (pv 3) (ae (ir rfl m7.nd (cC (pv 4)) (cT (own:= [("f",5)]) (by kernel_rfl))
    (λ_ _ _ _ _=>(gn 5 m7.nd)) (λ_ _ _ _ _=>(ox (eK (pc G2 hr (ae (pv 5) (ae (pv 3) (ae (pv 2) ax)))))))
    (λ_ _ _ _ _=>(pv 5))) ax))))) rfl)
   (am (bW (pv 0) (pc G1 hr (ae (pv 1) (ae (pv 2) (ae (pv 3) (ae (ir rfl m7.nd (cC (pv 4)) (cT (own:= [("f",5)]) (by kernel_rfl))
    (λ_ _ _ _ _=>(gn 5 m7.nd)) (λ_ _ _ _ _=>(ox (eK (pc G3 hr (ae (pv 5) (ae (pv 3) (ae (pv 2) ax)))))))
    (λ_ _ _ _ _=>(pv 5))) ax))))) rfl)
   (aA (bW (pv 0) (pc G1 hr (ae (pv 1) (ae (pv 2) (ae (pv 3) (ae (ir rfl m7.nd (cC (pv 4)) (cT (own:= [("f",5)]) (by kernel_rfl))
    (λ_ _ _ _ _=>(gn 5 m7.nd)) (λ_ _ _ _ _=>(ox (eK (pc G4 hr (ae (pv 5) (ae (pv 3) (ae (pv 2) ax)))))))
    (λ_ _ _ _ _=>(pv 5))) ax))))) rfl)))))),?_⟩
  refine NL ?_
  intros
  refine ⟨_,rfl,aL (hh.g7.mono sm) ⟨h.f,_,rfl, .inl (sm _ _ R1),λv hv=>?_⟩⟩;refine ⟨v,h.f,_,rfl,ak, .inl (bm (sm _ _ R1) (aG (sm _ _ R1) hv)),λlf Ic=>?_⟩;rw [KS Jj.1];have sa:aD H0 (upd (upd H v (.ext (nM v h.f))) lf (.lst (gH.map V.ref))):=(sm.trans (aD.new hv)).trans (aD.new Ic);have Zx:=bm (o':= .lst (gH.map V.ref)) (bm (o':= .ext (nM v h.f)) hx (aG hx hv)) (aG (bm (o':= .ext (nM v h.f)) hx (aG hx hv)) Ic);have Ze:lf≠x:=(aG (bm (o':= .ext (nM v h.f)) hx (aG hx hv)) Ic).symm;refine ⟨_,rfl,_,rfl,sN (Ex Zx) cl k.lm λH1 h1 b1=>?_⟩;have s1:=dB.same sa hn b1;have l1:H1 lf=some (.lst (gH.map V.ref)):=b1 _ _ Ze ak;have mem: ∀(ok:aq->Bool),(∀f∈fl.filter ok,f∈s.fares)/\(fl.filter ok).length<=60:=λok=>⟨λf hf=>hh.perm.mem_iff.mp (au.mp hf).1,aV (aO _ _) xm⟩
  refine ⟨_,rfl,_,rfl,_,rfl,rZ (s:=s) (j:=j) (i:=i) (e:=e) l1 (Jj.mono λ_ _ z=>z.mono s1) (hc.mono s1) hk.1 hJ xm λH2 D2 ig d2=>?_⟩;refine ⟨h,s,fl,af,ca,D2,j,i,e,_,_,B,rfl,hh.mono (s1.trans ig),hk,hc.mono (s1.trans ig),d2,oI (Jj.mono λ_ _ z=>z.mono (s1.trans ig)) _,(mem _).1,(mem _).2,λH3 L3 MV n3 o3=>?_⟩;have x3:=(ig.trans MV) _ _ h1.1;refine ⟨_,rfl,sN ⟨x3,h1.2⟩ cl k.nQ λH4 h4 b4=>?_⟩;have s4:=dB.same ((s1.trans ig).trans MV) hn b4;have l4:H4 lf=some (.lst (gH.map V.ref)):=b4 _ _ Ze ((ig.trans MV) _ _ l1);have o4:=o3.but x3 b4;refine ⟨_,rfl,_,rfl,_,rfl,rZ (s:=s) (j:=j) (i:=i) (e:=e) l4 (Jj.mono λ_ _ z=>z.mono s4) (hc.mono s4) hk.1 hJ xm λH5 D5 NU d5=>?_⟩;refine ⟨h,s,fl,af,ca,D5,j,i,e,_,_,B,rfl,hh.mono (s4.trans NU),hk,hc.mono (s4.trans NU),d5,oI (Jj.mono λ_ _ z=>z.mono (s4.trans NU)) _,(mem _).1,(mem _).2,λH6 L6 UF n6 o6=>?_⟩;have x6:=(NU.trans UF) _ _ h4.1;refine ⟨_,rfl,sN ⟨x6,h4.2⟩ cl k.sM λH7 h7 b7=>?_⟩;have s7:=dB.same ((s4.trans NU).trans UF) hn b7;have l7:H7 lf=some (.lst (gH.map V.ref)):=b7 _ _ Ze ((NU.trans UF) _ _ l4);have o7:=o6.but x6 b7;have o47:=(o4.mono (NU.trans UF)).but x6 b7;refine ⟨_,rfl,_,rfl,_,rfl,rZ (s:=s) (j:=j) (i:=i) (e:=e) l7 (Jj.mono λ_ _ z=>z.mono s7) (hc.mono s7) hk.1 hJ xm λH8 D8 PJ d8=>?_⟩;refine ⟨h,s,fl,af,ca,D8,j,i,e,_,_,B,rfl,hh.mono (s7.trans PJ),hk,hc.mono (s7.trans PJ),d8,oI (Jj.mono λ_ _ z=>z.mono (s7.trans PJ)) _,(mem _).1,(mem _).2,λH9 L9 Xf n9 o9=>?_⟩;have x9:=(PJ.trans Xf) _ _ h7.1;refine ⟨_,rfl,sN ⟨x9,h7.2⟩ cl k.qP λHA hA bA=>?_⟩;have sA:=dB.same ((s7.trans PJ).trans Xf) hn bA;have fA:bQ (λf a=>dr K HA a f) fl gH:=Jj.mono λ_ _ z=>z.mono sA;have nd:(["component","singles","outs","homes"]:List Str).Nodup:=by decide+kernel
  have hA:HA x=some (.ins t.im dx ((["component","singles","outs","homes"]:List Str).zip [.ref ca, .ref L3, .ref L6, .ref L9])):=hA.1;have fr: ∀{L:Addr} {H':Hp},(∀o,H L=some o->∃o',H' L=some o')->H' L=none->¬(B L/\∃o,H L=some o):=λk z zz=>by
   obtain ⟨_,o,y⟩:=zz;obtain ⟨o',y'⟩:=k o y;rw [y'] at z;cases z
  have up1: ∀{L:Addr} {o:HO},H L=some o->∃o',H1 L=some o':=λ{L o} y=>by
   by_cases e:L=x
   ·rw [e];exact ⟨_,h1.1⟩
   ·exact ⟨_,b1 _ _ e (aD.new Ic _ _ (aD.new hv _ _ y))⟩
  have up4: ∀{L:Addr} {o:HO},H L=some o->∃o',H4 L=some o':=λ{L o} y=>by
   obtain ⟨o',y'⟩:=up1 y;by_cases e:L=x
   ·rw [e];exact ⟨_,h4.1⟩
   ·exact ⟨_,b4 _ _ e ((ig.trans MV) _ _ y')⟩
  have up7: ∀{L:Addr} {o:HO},H L=some o->∃o',H7 L=some o':=λ{L o} y=>by
   obtain ⟨o',y'⟩:=up4 y;by_cases e:L=x
   ·rw [e];exact ⟨_,h7.1⟩
   ·exact ⟨_,b7 _ _ e ((NU.trans UF) _ _ y')⟩
  refine q HA sA ⟨⟨ca,cJ 0 nd hA cl k.lm,(hc.mono sA).weak λb z=>z.1⟩,⟨L3,cJ 1 nd hA cl k.nQ,((o47.mono (PJ.trans Xf)).but x9 bA).full (oI fA _) (fr (λo y=>(up1 y).imp λ_ z=>ig _ _ z) n3)⟩,
   ⟨L6,cJ 2 nd hA cl k.sM,((o7.mono (PJ.trans Xf)).but x9 bA).full (oI fA _) (fr (λo y=>(up4 y).imp λ_ z=>NU _ _ z) n6)⟩,⟨L9,cJ 3 nd hA cl k.qP,(o9.but x9 bA).full (oI fA _) (fr (λo y=>(up7 y).imp λ_ z=>PJ _ _ z) n9)⟩⟩
end
end Lf
namespace Lf
open Vbahaf (cut single outward homeward)
theorem dQ {H:Hp} {x dx C:Addr} (nx:H x=none) (nd:H dx=none):aD H (upd (upd H dx (.own x)) x (.ins C dx [])):=λb o e=>by
 rw [bK (aG e nx),bK (aG e nd)];exact e
def jA (n a:Nat) (m:Nat):List (Nat×Nat):=(bv m).map λk=>(a,a+k+1)
def oo (n m:Nat):List (Nat×Nat):=(bv m).flatMap λa=>jA n a (n-a)
theorem AN (n m:Nat):oo n (m+1)=oo n m++jA n m (n-m):=by unfold oo;rw [dW,cc];simp
theorem AO (n a m:Nat):jA n a (m+1)=jA n a m++ [(a,a+m+1)]:=by unfold jA;rw [dW,aP];rfl
theorem y2 {n:Nat} (h8:n<=8): ∀{m:Nat},m<=n->(oo n m).length<=8*m
 |0,_=>ay _
 |m+1,h=>by
  rw [AN,aK];have:=y2 h8 (m:=m) (by omega);unfold jA;rw [ab,bZ];omega
theorem oG {n a e:Nat}:(a,e)∈oo n n↔a<e/\e<=n:=by
 unfold oo jA;constructor
 ·intro h;obtain ⟨x,hx,h⟩:=aW.mp h;obtain ⟨k,hk,e⟩:=aj.mp h;have:=bE.mp hx;have:=bE.mp hk;cases e;omega
 ·intro ⟨h1,h2⟩;exact aW.mpr ⟨a,bE.mpr (by omega),aj.mpr ⟨e-a-1,bE.mpr (by omega),by congr 1;omega⟩⟩
def yz (K:aa) (H:Hp) (B:Addr->Prop) (s:ag) (fl:List aq) (j:ai) (af:Int) (l:Addr):Prop:= ∃os:List Addr,H l=some (.lst (os.map V.ref))/\bQ (λo c=>dq K H B s fl j af c.1 c.2 o) os (oo j.segs.length j.segs.length)
inductive oY (K:aa) (vs:List V) (H:Hp) (Q:VK):Prop
 |mk (h:HA) (s:ag) (fl:List aq) (j:ai) (af:Int):vs= [.ref h.a, .int af]->aZ K H h s fl->s.journey=some j->(0<=af/\af<=4)->(∀(H':Hp) (l:Addr),aD H H'->H l=none->yz K H' (λb=>b=l) s fl j af l->Q (.ref l) H')->oY K vs H Q
def lO (K:aa):Sp:=λvs H Q _=>oY K vs H Q
section
theorem A5:ba ["house","kind","many","found","first","last"] ["house","kind"] (aM (top 54)):=fi
theorem Wq (D:Dn K mg "find_offers" (top 54) ["house","kind"]) (b:Bl mg) (G1:Cl P w K mg base "Component" t.cK 2 ["self","house","first","last"] (y9 K t.cK)) (G2:Cl P w K mg base "Offers" t.im 5 ["self","house","kind","component"] (uM K t.im)):
  Fn P w K mg base "find_offers" 7 ["house","kind"] (lO K):=by
 refine D.go A5 λf db A outer s H vs Q E hr h=>?_
 ·intro Xc;obtain ⟨h,s,fl,j,af,rfl,hh,hj,hk,q⟩:=h;obtain ⟨ja,fj,HW⟩:=hh.il hj;obtain ⟨BQ,l,as,Tr,Gb,hl,hs,_⟩:=HW;have h8:=(hh.ok.jo j hj).ge;have hlen:as.length=j.segs.length:=hs.1;refine ⟨_,(am (st 2 A5.nd (iV b.len (aT (aT (pv 0) rfl) rfl)))
   (am (st 3 A5.nd (bJ ax))
   (am (dk PassesOwn.never rfl (rM rfl b.range (ae (pv 2) ax)) (gn 4 A5.nd)
    (aA (dk PassesOwn.never rfl (iC rfl b.range (ae (pv 4) (ae (pv 2) ax))) (gn 5 A5.nd)
    (aA (eD (Cg (pv 3) (MX G2 hr (ae (pv 0) (ae (pv 1) (ae (MX G1 hr (ae (pv 0) (ae (pv 4) (ae (pv 5) ax)))) ax))))))))))
   (aA (aX (pv 3)))))),?_⟩
  refine mL ?_
  intros
  refine ⟨_,rfl,aL fj (aL Gb ⟨l,_,rfl, .inl (.of hl),?_⟩)⟩;rw [ab,hlen];refine ⟨bw _,λlf Ic=>?_⟩;refine ⟨_,rfl,_,rfl,by omega,by omega,g8 (n:=((j.segs.length:Nat):Int).toNat) (λa σ H'=>aD H H'/\(∃v4 v5,σ= [some (.ref h.a),some (.int af),some (.int (j.segs.length:Int)),some (.ref lf),v4,v5])/\∃os:List Addr,H' lf=some (.lst (os.map V.ref))/\bQ (λo c=>dq K H' (λb=>b=lf) s fl j af c.1 c.2 o) os (oo j.segs.length a))
   ⟨aD.new Ic,⟨none,none,rfl⟩,[],ak,bQ.nil⟩ ?_ ?_⟩
  ·rintro _ _ _ a σ H1 ha ⟨s1,⟨v4,v5,rfl⟩,os,ho,BX⟩;have ha:a<j.segs.length:=by omega
   refine ⟨_,rfl,_,rfl,_,_,rfl,⟨by omega,by omega,by omega,by omega⟩,?_⟩;refine g8 (lo:=0+(a:Int)) (λm σ H'=>aD H H'/\(∃v5,σ= [some (.ref h.a),some (.int af),some (.int (j.segs.length:Int)),some (.ref lf),some (.int (0+(a:Int))),v5])/\∃os:List Addr,H' lf=some (.lst (os.map V.ref))/\bQ (λo c=>dq K H' (λb=>b=lf) s fl j af c.1 c.2 o) os (oo j.segs.length a++jA j.segs.length a m))
    ⟨s1,⟨v5,rfl⟩,os,ho,by simpa [jA] using BX⟩ ?_ ?_
   ·rintro _ _ _ m σ H2 hm ⟨s2,⟨v5,rfl⟩,os,ho,BX⟩;have hm:a+m+1<=j.segs.length:=by omega
    refine ⟨_,rfl, .inl ⟨rfl,_, .of ho⟩,_,rfl,_,rfl,_,rfl,_,rfl,_,rfl,λx dx nx tD Rp=>?_⟩;refine ⟨x,dx,H2,h,s,fl,j,a,a+m+1,_,_,rfl,by omega,by omega,ak,dQ nx tD,nx,hh.mono s2,hj,by omega,hm,λH3 s3 c3=>⟨rfl,λy dy ny Xm ney=>?_⟩⟩;refine ⟨y,dy,x,H3,h,s,fl,j,a,a+m+1,af,_,rfl,ak,dQ ny Xm,ny,hh.mono (s2.trans s3),c3,hj,hk,λH4 s4 o4=>⟨rfl,?_⟩⟩;have YH:=s3.trans s4;have l4:=YH _ _ ho;refine ⟨lf,_,_,rfl,rfl,l4,?_,aD.put (s2.trans YH) Ic,⟨_,rfl⟩,os++ [y],?_,?_⟩
    ·rw [ab,BX.1,aK];have:=y2 h8 (m:=a) (by omega);unfold jA;rw [ab,bZ];have:sizeLine=16777216:=af5;omega
    ·rw [ak,dP]
    ·rw [AO, <-cp];have up:dB lf H4 (upd H4 lf (.lst (os.map V.ref++ [.ref y]))):=dB.upd;exact (BX.mono λ_ _ z=>(z.mono YH).but rfl l4 up).snoc ((o4.weak λb hb=>by
      subst hb;exact ⟨⟨_,dQ nx tD _ _ ho⟩,_,dQ ny Xm _ _ (s3 _ _ ho)⟩).but rfl l4 up)
   ·rintro σ H2 ⟨s2,⟨v5,rfl⟩,os,ho,BX⟩;refine ⟨s2,⟨_,_,rfl⟩,os,ho,?_⟩;rw [AN];have e:((j.segs.length:Int)-(0+(a:Int))).toNat=j.segs.length-a:=by omega
    rw [e] at BX;exact BX
  ·rintro σ H1 ⟨s1,⟨v4,v5,rfl⟩,os,ho,BX⟩;exact ⟨_,rfl,q H1 lf s1 Ic ⟨os,ho,by simpa using BX⟩⟩
end
end Lf
namespace Lf
open Vbahaf (bitOf cut srcOf dstOf dayOf outward homeward together)
def U7:Option Int->V
 |none=> .fE
 |some n=> .int n
inductive yF (K:aa) (vs:List V) (H:Hp) (Q:VK):Prop
 |mk (ca cb:Addr) (s:ag) (j:ai) (i e i' e':Nat) (B B':Addr->Prop):vs= [.ref ca, .ref cb]->d9 K H B s j i e ca->d9 K H B' s j i' e' cb->Q (U7 (Ends (cut j i e) (cut j i' e'))) H->yF K vs H Q
def uN (K:aa):Sp:=λvs H Q _=>yF K vs H Q
inductive yK (K:aa) (vs:List V) (H:Hp) (Q:VK):Prop
 |mk (fa:Addr) (f:aq) (n fS:Int):vs= [.ref fa, .int n, .int fS]->dr K H fa f->(n=0∨n=1∨n=2)->(0<=f.open_/\f.open_<=3)->Q (.bl (allow n fS f)) H->yK K vs H Q
def uS (K:aa):Sp:=λvs H Q _=>yK K vs H Q
inductive sQ (K:aa) (vs:List V) (H:Hp) (Q:VK):Prop
 |mk (h:HA) (s:ag) (fl:List aq) (g g':Int):vs= [.ref h.a, .int g, .int g']->aZ K H h s fl->(∀H',aD H H'->Q (.bl (s.combos.contains (g,g'))) H')->sQ K vs H Q
def pA (K:aa):Sp:=λvs H Q _=>sQ K vs H Q
inductive yB (K:aa) (vs:List V) (H:Hp) (Q:VK):Prop
 |mk (h:HA) (s:ag) (fl:List aq) (j:ai) (af:Int) (fa ca fb cb:Addr) (f g:aq) (i e i' e':Nat) (B B':Addr->Prop):vs= [.ref h.a, .int af, .ref fa, .ref ca, .ref fb, .ref cb]->aZ K H h s fl->s.journey=some j->0<=af->dr K H fa f->dr K H fb g->f∈s.fares->g∈s.fares->d9 K H B s j i e ca->d9 K H B' s j i' e' cb->(∀H',aD H H'->Q (.bl (outward j af f (cut j i e)&&(homeward j af g (cut j i' e')&&together s f g (cut j i e) (cut j i' e')))) H')->yB K vs H Q
def AR (K:aa):Sp:=λvs H Q _=>yB K vs H Q
theorem vW (p q:cw):Ends p q=none∨Ends p q=some 0∨Ends p q=some 1∨Ends p q=some 2:=by
 unfold Ends;split
 ·exact .inr (.inl rfl)
 ·split
  ·exact .inr (.inr (.inl rfl))
  ·split
   ·exact .inr (.inr (.inr rfl))
   ·exact .inl rfl
theorem Oa {o n:Int} (h0:0<=o) (h3:o<=3) (hn:n=0∨n=1∨n=2):decide (Builtin.bitAnd o n=n)=(n==0||(n==1&&bitOf o 0)||(n==2&&bitOf o 1)):=by
 have ho:o=0∨o=1∨o=2∨o=3:=by omega
 rcases ho with rfl|rfl|rfl|rfl<;>rcases hn with rfl|rfl|rfl<;>decide+kernel
section
theorem ze:ba ["out","home","near","far"] ["out","home"] (aM (top 58)):=fi
theorem OQ (D:Dn K mg "digits_needed" (top 58) ["out","home"]) (c:Cs mg):Fn P w K mg base "digits_needed" 1 ["out","home"] (uN K):=by
 refine D.go ze λf db A outer s H vs Q E hr h=>?_
 ·intro Xc;obtain ⟨ca,cb,s,j,i,e,i',e',B,B',rfl,ha,hb,q⟩:=h;refine ⟨_,(am (st 2 ze.nd (dG fV (aT (pv 0) rfl) (aT (pv 1) rfl) (bS _)))
   (am (st 3 ze.nd (dG fV (aT (pv 0) rfl) (aT (pv 1) rfl) (bS _)))
   (am (cE (pG (eK (pv 2)) (lQ (eK (pv 3)))).pt
    (aA (aX aF))
    bI)
   (am (cE (eK (pv 2))
    (aA (aX (kj c.wt)))
    bI)
   (am (cE (eK (pv 3))
    (aA (aX (kj c.xy)))
    bI)
   (aA (aX lS))))))),?_⟩
  refine NK ?_
  intros
  refine ⟨_,rfl,aL ha.origin ⟨_,rfl,aL hb.target ⟨rfl,?_⟩⟩⟩;refine ⟨_,rfl,aL ha.target ⟨_,rfl,aL hb.origin ⟨rfl,?_⟩⟩⟩;rw [dV,dV];unfold Ends at q;by_cases h1:srcOf (cut j i e)=dstOf (cut j i' e')
  ·by_cases h2:dstOf (cut j i e)=srcOf (cut j i' e')
   ·rw [if_pos ⟨h1,h2⟩] at q;refine ⟨_,rfl,_,rfl,?_⟩;rw [decide_eq_true h1,decide_eq_true h2];exact ⟨_,rfl,_,rfl,q⟩
   ·rw [if_neg (λz=>h2 z.2),if_pos h1] at q;refine ⟨_,rfl,_,rfl,?_⟩;rw [decide_eq_true h1,decide_eq_false h2];exact ⟨_,rfl,_,rfl,_,rfl,_,rfl,q⟩
  ·by_cases h2:dstOf (cut j i e)=srcOf (cut j i' e')
   ·rw [if_neg (λz=>h1 z.1),if_neg h1,if_pos h2] at q;refine ⟨_,rfl,_,rfl,?_⟩;rw [decide_eq_false h1,decide_eq_true h2];exact ⟨_,rfl,_,rfl,_,rfl,_,rfl,q⟩
   ·rw [if_neg (λz=>h1 z.1),if_neg h1,if_neg h2] at q;refine ⟨_,rfl,_,rfl,?_⟩;rw [decide_eq_false h1,decide_eq_false h2];exact ⟨_,rfl,_,rfl,_,rfl,_,rfl,q⟩
theorem Ho:ba ["fare","needed","stay"] ["fare","needed","stay"] (aM (top 59)):=fi
theorem ID (D:Dn K mg "allows" (top 59) ["fare","needed","stay"]):Fn P w K mg base "allows" 1 ["fare","needed","stay"] (uS K):=by
 refine D.go Ho λf db A outer s H vs Q E hr h=>?_
 ·intro Xc;obtain ⟨fa,f,n,fS,rfl,hf,hn,⟨ho0,Xv⟩,q⟩:=h;have key:allow n fS f=(decide (Builtin.bitAnd f.open_ n=n)&&(decide (f.leastStay<=fS)&&decide (fS<=f.mostStay))):=by unfold allow;rw [Oa ho0 Xv hn]
  refine ⟨_,(aA (aX (d7 (dG fV (bX zt (aT (pv 0) rfl) (pv 1)) (pv 1) (bS _)) (jD (Kw vm vm (aT (pv 0) rfl) (pv 2) (aT (pv 0) rfl)))))),?_⟩;refine ⟨_,rfl,aL hf.oB ⟨_,rfl,_,_,rfl,rfl,_,rfl,rfl,_,rfl,?_⟩⟩;show if decide (V.int (Builtin.bitAnd f.open_ n)=V.int n)=true then _ else _
  rw [dV];refine ip (λe1=>?_) (λe1=>cj q (by rw [key,e1];rfl));refine ⟨_,rfl,aL hf.lY ⟨_,rfl,_,_,rfl,rfl,_,rfl,?_⟩⟩;refine ip (λe2=>?_) (λe2=>cj q (by rw [key,e1,e2];rfl));refine ⟨_,rfl,aL hf.oF ⟨_,_,rfl,rfl,?_⟩⟩;exact cj q (by rw [key,e1,e2];rfl)
theorem Q6:ba ["house","group_out","group_home"] ["house","group_out","group_home"] (aM (top 60)):=fi
theorem Sf (D:Dn K mg "go_together" (top 60) ["house","group_out","group_home"]):Fn P w K mg base "go_together" 1 ["house","group_out","group_home"] (pA K):=by
 refine D.go Q6 λf db A outer s H vs Q E hr h=>?_
 ·intro Xc;obtain ⟨h,s,fl,g,g',rfl,hh,q⟩:=h;have hu:=jH hr;obtain ⟨kvs,h1,h2,h3,h4⟩:=hh.groups;refine ⟨_,(aA (aX (qA hu (aT (pv 0) rfl) (fB (ae (pv 1) (ae (pv 2) ax))) iu ⟨rfl,rfl,rfl,rfl⟩))),?_⟩;refine ⟨_,rfl,aL hh.yn ⟨h.t,rfl, .inr ⟨kvs, .inl h1⟩,_,rfl,_,rfl,(by show 2<=sizeLine;decide),λp hp=>?_⟩⟩;refine ⟨_,j0.t (k:= [az g,az g']) (bm h1 (aG h1 hp)) ak,?_⟩;rw [h4];exact q _ (aD.new hp)
theorem zf:ba ["house","kind","fare_out","out","fare_home","home","needed","stay"] ["house","kind","fare_out","out","fare_home","home"] (aM (top 61)):=fi
theorem OR (D:Dn K mg "make_return" (top 61) ["house","kind","fare_out","out","fare_home","home"]) (G1:Fn P w K mg base "digits_needed" 1 ["out","home"] (uN K)) (G2:Fn P w K mg base "fits_out" 4 ["fare","component","kind"] (j6 K outward))
  (G3:Fn P w K mg base "fits_home" 4 ["fare","component","kind"] (j6 K homeward)) (G4:Fn P w K mg base "allows" 1 ["fare","needed","stay"] (uS K)) (G5:Fn P w K mg base "go_together" 1 ["house","group_out","group_home"] (pA K)):
  Fn P w K mg base "make_return" 5 ["house","kind","fare_out","out","fare_home","home"] (AR K):=by
 refine D.go zf λf db A outer s H vs Q E hr h=>?_
 ·intro Xc;obtain ⟨h,s,fl,j,af,fa,ca,fb,cb,f,g,i,e,i',e',B,B',rfl,hh,hj,hk,hf,hg,mf,mg',hc,hd,q⟩:=h;have hJ:=hh.ok.jo j hj;have of:=(ui hh.ok mf).2.2.2.2.2;have og:=(ui hh.ok mg').2.2.2.2.2;refine ⟨_,(am (st 6 zf.nd (pc G1 hr (ae (pv 3) (ae (pv 5) ax))))
   (am (st 7 zf.nd (bX fU (aT (pv 5) rfl) (aT (pv 3) rfl)))
   (aA (aX (d7 (Kv (FK (pv 6))) (d7 (pc G2 hr (ae (pv 2) (ae (pv 3) (ae (pv 1) ax)))) (d7 (pc G3 hr (ae (pv 4) (ae (pv 5) (ae (pv 1) ax))))
    (d7 (pc G4 hr (ae (pv 2) (ae (pv 6) (ae (pv 7) ax)))) (d7 (pc G4 hr (ae (pv 4) (ae (pv 6) (ae (pv 7) ax)))) (jD (pc G5 hr (ae (pv 0) (ae (aT (pv 2) rfl) (ae (aT (pv 4) rfl) ax)))))))))))))),?_⟩
  refine qo ?_
  intros
  refine ⟨_,rfl,_,rfl,ca,cb,s,j,i,e,i',e',B,B',rfl,hc,hd,?_⟩;refine ⟨_,rfl,aL hd.day ⟨_,rfl,aL hc.day ⟨_,_,rfl,rfl,?_⟩⟩⟩;have q0:=q H (aD.refl H);rw [j3] at q0 q;refine ⟨_,rfl,_,rfl,?_⟩;cases hE:Ends (cut j i e) (cut j i' e') with
  |none=>
   rw [hE] at q0;exact cj q0 (by simp)
  |some n=>
   rw [hE] at q q0;have hn:n=0∨n=1∨n=2:=by
    rcases vW (cut j i e) (cut j i' e') with z|z|z|z<;>rw [hE] at z<;>cases z
    ·exact .inl rfl
    ·exact .inr (.inl rfl)
    ·exact .inr (.inr rfl)
   refine ⟨_,rfl,_,rfl,_,rfl,fa,ca,f,s,j,i,e,af,B,rfl,hf,hc,hk,hJ,_,rfl,?_⟩;refine ip (λe1=>?_) (λe1=>cj q0 (by rw [e1];rfl));refine ⟨_,rfl,_,rfl,_,rfl,fb,cb,g,s,j,i',e',af,B',rfl,hg,hd,hk,hJ,_,rfl,?_⟩;refine ip (λe2=>?_) (λe2=>cj q0 (by rw [e1,e2];rfl));refine ⟨_,rfl,_,rfl,_,rfl,fa,f,n,_,rfl,hf,hn,of,_,rfl,?_⟩;refine ip (λe3=>?_) (λe3=>cj q0 (by rw [e1,e2];show (true&&(true&&(allow n (dayOf (cut j i' e')-dayOf (cut j i e)) f&&_)))=false;rw [e3];rfl));refine ⟨_,rfl,_,rfl,_,rfl,fb,g,n,_,rfl,hg,hn,og,_,rfl,?_⟩;refine ip (λe4=>?_) (λe4=>cj q0 (by rw [e1,e2];show (true&&(true&&(allow n (dayOf (cut j i' e')-dayOf (cut j i e)) f&&(allow n (dayOf (cut j i' e')-dayOf (cut j i e)) g&&_))))=false;rw [e3,e4];rfl));refine ⟨_,rfl,_,rfl,aL hf.group ⟨_,rfl,aL hg.group ⟨h,s,fl,_,_,rfl,hh,λH' sm=>?_⟩⟩⟩;refine cj (q H' sm) ?_;rw [e1,e2];show (true&&(true&&(allow n (dayOf (cut j i' e')-dayOf (cut j i e)) f&&(allow n (dayOf (cut j i' e')-dayOf (cut j i e)) g&&_))))=_;rw [e3,e4];rfl
end
end Lf
namespace Lf
theorem l5 {J:It} {n:Nat} {g:TG} {tb:TS} {D:L2.Ends} {σ:L2.St} {H:Hp} (Pv:Nat->L2.St->Hp->Prop) (h0:Pv 0 σ H) (P7: ∀i σ H,i<n->Pv i σ H->J.go i H) (RP: ∀σ H,Pv n σ H->J.stop n H)
  (hs:let Iv:=Pv;let Dv:=D;let Bv:=tb; ∀i σ H x H',i<n->Iv i σ H->J.Ju i H x H'->g x σ H' λkJ H2=>Bv {Dv with nx:=Iv (i+1),ct:=Iv (i+1),bk:=Dv.nx} kJ H2) (hd: ∀σ H,Pv n σ H->D.nx σ H):
  ∃W:Nat->Nat->L2.St->Hp->Prop,(∃m,W 0 m σ H)/\∀i m σ H,W i m σ H->
   (J.stop i H/\D.nx σ H)∨(J.go i H/\∃N:L2.St->Hp->Prop,(∀eM H',N eM H'->∃m',m'<m/\W (i+1) m' eM H')/\∀x H',J.Ju i H x H'->g x σ H' λkJ H2=>tb {D with nx:=N,ct:=N,bk:=D.nx} kJ H2):=by
 refine ⟨λi m σ H=>m=n-i/\i<=n/\Pv i σ H,⟨n,by simp,bw _,h0⟩,?_⟩;rintro i m σ H ⟨rfl,hi,p⟩;by_cases i4:i<n
 ·exact .inr ⟨P7 i σ H i4 p,Pv (i+1),λeM H' p'=>⟨n-(i+1),by omega,rfl,i4,p'⟩,λx H' y=>hs i σ H x H' i4 p y⟩
 ·have e:i=n:=by omega
  subst e;exact .inl ⟨RP σ H p,hd σ H p⟩
theorem Et {J:It} {n:Nat} {g:TG} {tt:TT} {te:TE} {vs:List Nat} {σ:L2.St} {H1:Hp} {D:Addr} {Qd:Hp->Prop} (Pv:Nat->Hp->Prop) (h0:Pv 0 (upd H1 D (.lst []))) (P7: ∀i H,i<n->Pv i H->J.go i H) (RP: ∀H,Pv n H->J.stop n H)
  (hs:let Iv:=Pv;let Sv:=wipe σ vs;let Tv:=tt;let Ev:=te; ∀i H x H',i<n->Iv i H->J.Ju i H x H'->g x Sv H' λkJ H2=>wipe kJ vs=Sv/\Tv kJ H2 λb H3=>
   if b=true then Ev kJ H3 λy H4=> ∃acc,H4 D=some (.lst acc)/\acc.length<sizeLine/\Iv (i+1) (upd H4 D (.lst (acc++ [y]))) else Iv (i+1) H3) (hd: ∀H,Pv n H->Qd H):
  ∃W:Nat->Nat->Hp->Prop,(∃m,W 0 m (upd H1 D (.lst [])))/\∀i m H,W i m H->
   (J.stop i H/\Qd H)∨(J.go i H/\∃Nx:Hp->Prop,(∀H',Nx H'->∃m',m'<m/\W (i+1) m' H')/\∀x H',J.Ju i H x H'->g x (wipe σ vs) H' λkJ H2=>wipe kJ vs=wipe σ vs/\tt kJ H2 λb H3=>
    if b=true then te kJ H3 λy H4=> ∃acc,H4 D=some (.lst acc)/\acc.length<sizeLine/\Nx (upd H4 D (.lst (acc++ [y]))) else Nx H3):=by
 refine ⟨λi m H=>m=n-i/\i<=n/\Pv i H,⟨n,by simp,bw _,h0⟩,?_⟩;rintro i m H ⟨rfl,hi,p⟩;by_cases i4:i<n
 ·exact .inr ⟨P7 i H i4 p,Pv (i+1),λH' p'=>⟨n-(i+1),by omega,rfl,i4,p'⟩,λx H' y=>hs i H x H' i4 p y⟩
 ·have e:i=n:=by omega
  subst e;exact .inl ⟨RP H p,hd H p⟩
end Lf
namespace Lf
open Vbahaf (rowLess least pay)
abbrev Zs:=List (Int×(Int×Int)×Addr)
structure GN (A:List (Int×Int×Int)) (Z:Zs):Prop where
 nd:(Z.map (·.1)).Nodup
 is: ∀g a k,(∃p,(g,(a,k),p)∈Z)↔least (rowsOf A g)=some [a,k]
theorem zi {A:List (Int×Int×Int)} {g:Int} {r:List Int} (h:least (rowsOf A g)=some r): ∃a k,r= [a,k]:=by
 obtain ⟨x,_,rfl⟩:=aj.mp (cq.mp h).1;exact ⟨_,_,rfl⟩
theorem GN.nil:GN [] []:=⟨eI,λg a k=>⟨λzz=>(by obtain ⟨p,h⟩:=zz;cases h),λh=>(by cases h)⟩⟩
theorem GN.new {A:List (Int×Int×Int)} {Z:Zs} (G:GN A Z) {g a k:Int} {p:Addr} (h: ∀z∈Z,z.1≠g):GN (A++ [(g,a,k)]) (Z++ [(g,(a,k),p)]):=by
 have VL:least (rowsOf A g)=none:=by
  cases q:least (rowsOf A g) with
  |none=>rfl
  |some r=>
   obtain ⟨a',k',rfl⟩:=zi q;obtain ⟨p',hp⟩:=(G.is g a' k').mpr q;exact absurd rfl (h _ hp)
 constructor
 ·rw [aP];refine FS G.nd λm=>?_;obtain ⟨z,hz,e⟩:=aj.mp m;exact h z hz e
 ·intro g' a' k';rw [sC];by_cases e:g=g'
  ·subst e;rw [if_pos rfl,vD,VL];constructor
   ·rintro ⟨p',hp⟩;rcases bF.mp hp with z|z
    ·exact absurd rfl (h _ z)
    ·have:=aR.mp z;cases this;rfl
   ·intro z;have z:some [a,k]=some [a',k']:=z;cases z;exact ⟨p,bF.mpr (.inr (aR.mpr rfl))⟩
  ·rw [if_neg e, <-G.is g' a' k'];constructor
   ·rintro ⟨p',hp⟩;rcases bF.mp hp with z|z
    ·exact ⟨p',z⟩
    ·have:=aR.mp z;cases this;exact absurd rfl e
   ·rintro ⟨p',hp⟩;exact ⟨p',bF.mpr (.inl hp)⟩
def xa (Z:Zs) (g:Int) (v:(Int×Int)×Addr):Zs:=Z.map λz=>if z.1=g then (g,v) else z
theorem GN.old {A:List (Int×Int×Int)} {Z:Zs} (G:GN A Z) {g a k a0 k0:Int} {p p0:Addr} (h:(g,(a0,k0),p0)∈Z):GN (A++ [(g,a,k)]) (xa Z g (if rowLess [a0,k0] [a,k]=true then ((a0,k0),p0) else ((a,k),p))):=by
 have hl:=(G.is g a0 k0).mp ⟨p0,h⟩;have ek:(xa Z g (if rowLess [a0,k0] [a,k]=true then ((a0,k0),p0) else ((a,k),p))).map (·.1)=Z.map (·.1):=by
  unfold xa;rw [bi];refine bO λz _=>?_;show (if z.1=g then (g,_) else z).1=z.1;by_cases e:z.1=g
  ·rw [if_pos e];exact e.symm
  ·rw [if_neg e]
 constructor
 ·rw [ek];exact G.nd
 ·intro g' a' k';rw [sC];by_cases e:g=g'
  ·subst e;rw [if_pos rfl,vD,hl];have em: ∀a' k' p',(g,(a',k'),p')∈xa Z g (if rowLess [a0,k0] [a,k]=true then ((a0,k0),p0) else ((a,k),p))↔((a',k'),p')=(if rowLess [a0,k0] [a,k]=true then ((a0,k0),p0) else ((a,k),p)):=λa' k' p'=>by
    unfold xa;constructor
    ·intro z;obtain ⟨y,hy,ey⟩:=aj.mp z;by_cases e:y.1=g
     ·rw [if_pos e] at ey;exact (gq ey).2.symm
     ·rw [if_neg e] at ey;rw [ey] at e;exact absurd rfl e
    ·intro z;exact aj.mpr ⟨_,h,by rw [if_pos rfl, <-z]⟩
   cases c:rowLess [a0,k0] [a,k] with
   |true=>
    rw [c] at em;simp only [if_true] at em⊢;rw [u9 c];simp only [bM,if_false];constructor
    ·rintro ⟨p',hp⟩;have:=(em _ _ _).mp hp;cases this;rfl
    ·intro z;cases z;exact ⟨p0,(em _ _ _).mpr rfl⟩
   |false=>
    rw [c] at em;simp only [bM,if_false] at em⊢;constructor
    ·rintro ⟨p',hp⟩;have:=(em _ _ _).mp hp;cases this;cases d:rowLess [a,k] [a0,k0] with
     |true=>rfl
     |false=>rw [if_neg aI,jC d c]
    ·intro z;cases d:rowLess [a,k] [a0,k0] with
     |true=>
      rw [d,if_pos rfl] at z;cases z;exact ⟨p,(em _ _ _).mpr rfl⟩
     |false=>
      rw [d,if_neg aI] at z;have e:=jC d c;cases e;cases z;exact ⟨p,(em _ _ _).mpr rfl⟩
  ·rw [if_neg e, <-G.is g' a' k'];unfold xa;constructor
   ·rintro ⟨p',hp⟩;obtain ⟨y,hy,ey⟩:=aj.mp hp;by_cases e2:y.1=g
    ·rw [if_pos e2] at ey;exact absurd (gq ey).1 e
    ·rw [if_neg e2] at ey;rw [ey] at hy;exact ⟨p',hy⟩
   ·rintro ⟨p',hp⟩;exact ⟨p',aj.mpr ⟨_,hp,by rw [if_neg (λz=>e z.symm)]⟩⟩
def qa (Z:Zs):List (Key×V):=Z.map λz=>(az z.1,V.ref z.2.2)
def GM (H:Hp) (d:Addr) (A:List (Int×Int×Int)):Prop:= ∃Z:Zs,H d=some (.dK (qa Z))/\GN A Z/\(∀z∈Z,H z.2.2=some (.tup [.int z.2.1.1, .int z.2.1.2]))/\Z.length<=60
theorem GM.mono {H H':Hp} {d:Addr} {A:List (Int×Int×Int)} (h:GM H d A) (s:aD H H'):GM H' d A:=by
 obtain ⟨Z,h1,h2,h3,h4⟩:=h;exact ⟨Z,s _ _ h1,h2,λz hz=>s _ _ (h3 z hz),h4⟩
theorem KR {Z:Zs} {g:Int} (h:cr (qa Z) (az g)=none): ∀z∈Z,z.1≠g:=λz hz e=>by
 have:=Jx h;refine this (aj.mpr ⟨(az z.1, .ref z.2.2),aj.mpr ⟨z,hz,rfl⟩,by rw [<-e]⟩)
theorem KQ {Z:Zs} {g:Int} {v:V} (h:cr (qa Z) (az g)=some v): ∃a k p,v= .ref p/\(g,(a,k),p)∈Z:=by
 obtain ⟨⟨g',⟨a,k⟩,p⟩,hz,e⟩:=aj.mp (qi h);cases e;exact ⟨a,k,p,rfl,hz⟩
theorem zq {Z:Zs} {g a k:Int} {p:Addr} (h:cr (qa Z) (az g)=none):putK (qa Z) (az g) (.ref p)=qa (Z++ [(g,(a,k),p)]):=by
 rw [qx _ h];unfold qa;rw [aP];rfl
theorem zp {Z:Zs} {g:Int} {v:V} {x:(Int×Int)×Addr} (h:cr (qa Z) (az g)=some v):putK (qa Z) (az g) (.ref x.2)=qa (xa Z g x):=by
 unfold putK;rw [fL,h];simp only [hU,if_true];unfold qa xa;rw [bi,bi];refine bO λz _=>?_;show (if (az z.1:Key)=az g then ((az z.1:Key),V.ref x.2) else (az z.1,V.ref z.2.2))=(az (if z.1=g then (g,x) else z).1,V.ref (if z.1=g then (g,x) else z).2.2)
 by_cases e:z.1=g
 ·rw [if_pos (by rw [e]),if_pos e,e]
 ·rw [if_neg (λy=>e (cU y)),if_neg e]
inductive CP (K:aa) (vs:List V) (H:Hp) (Q:VK):Prop
 |mk (lo:Addr) (s:ag) (af:Int) (c:cw) (fs:List aq) (n fS:Int) (B:Addr->Prop):vs= [.ref lo, .int n, .int fS]->fX K H B s af c lo fs->(∀f∈fs,f∈s.fares)->kE s->(n=0∨n=1∨n=2)->fs.length<=60->(∀(H':Hp) (d:Addr),aD H H'->H d=none->GM H' d (side s af c n fS fs)->Q (.ref d) H')->CP K vs H Q
def Fq (K:aa):Sp:=λvs H Q _=>CP K vs H Q
theorem Hg {s:ag} {af:Int} {c:cw} {n fS:Int} {fs:List aq} {f:aq}:side s af c n fS (fs++ [f])=if allow n fS f=true then side s af c n fS fs++ [(f.group,pay s af f c,f.key)] else side s af c n fS fs:=by
 unfold side;rw [cD,aP,br];cases allow n fS f<;>simp
section
theorem u0:ba ["offers","needed","stay","least","paid","fare","found"] ["offers","needed","stay"] (aM (top 62)):=fi
theorem Sl (D:Dn K mg "least_by_group" (top 62) ["offers","needed","stay"]) (b:Bl mg) (G1:Fn P w K mg base "allows" 1 ["fare","needed","stay"] (uS K)):Fn P w K mg base "least_by_group" 2 ["offers","needed","stay"] (Fq K):=by
 refine D.go u0 λf db A outer s H vs Q E hr h=>?_
 ·intro Xc;obtain ⟨lo,s,af,c,fs,n,fS,B,rfl,⟨_,ps,hl,ho⟩,hm,ok,hn,xm,q⟩:=h;have hu:=jH hr;refine ⟨_,(am (st 3 u0.nd vf)
   (am (dk PassesOwn.never rfl (cC (pv 0)) (km rfl (cF (gn 4 u0.nd) (cF (gn 5 u0.nd) gX)))
    (aA (cE (eK (pc G1 hr (ae (pv 5) (ae (pv 1) (ae (pv 2) ax)))))
    (am (st 6 u0.nd (fB (ae (pv 4) (ae (aT (pv 5) rfl) ax))))
   (aA (lR hu (pv 3) (aT (pv 5) rfl) (dU (ES rfl hr.units) rfl b.min hZ (ae (pv 6) (ae (qA hu (pv 3) (aT (pv 5) rfl) (pv 6) ⟨rfl,rfl,rfl,rfl⟩) ax))) rfl)))
    bI)))
   (aA (aX (pv 3))))),?_⟩
  refine qo ?_
  intros
  intro d hd;refine ⟨_,rfl,lo,rfl,⟨_, .of (aD.new hd _ _ hl)⟩,eQ (K:=K) (a:=lo) (xs:=ps.map V.ref) (λi σ H'=>aD H H'/\(∃v4 v5 v6,σ= [some (.ref lo),some (.int n),some (.int fS),some (.ref d),v4,v5,v6])/\∃Z:Zs,H' d=some (.dK (qa Z))/\GN (side s af c n fS (fs.take i)) Z/\Z.length<=i/\∀z∈Z,H' z.2.2=some (.tup [.int z.2.1.1, .int z.2.1.2]))
   ⟨aD.new hd,⟨none,none,none,rfl⟩,[],ak,GN.nil,ay _,λz hz=>by cases hz⟩ (λi σ H' _ zz=> .of (zz.1 _ _ hl)) ?_ ?_⟩
  ·rintro _ _ _ i x σ H1 hx ⟨s1,⟨v4,v5,v6,rfl⟩,Z,hz,hG,hZl,ht⟩;obtain ⟨p,hp,rfl⟩:=b0 hx;obtain ⟨f,hf,fa,M6,rV⟩:=ho.get' hp;have hi:i<60:=bu (aJ.mp hf).1 xm;refine ⟨p,_,rfl, .of (s1 _ _ M6),rfl,_,_,rfl,_,_,rfl,rfl,?_⟩;have fm:=hm f (aH hf);have F1:=rV.mono s1;refine ⟨_,rfl,_,rfl,_,rfl,fa,f,n,fS,rfl,F1,hn,(ui ok fm).2.2.2.2.2,_,rfl,?_⟩;have eS:=Hg (s:=s) (af:=af) (c:=c) (n:=n) (fS:=fS) (fs:=fs.take i) (f:=f);rw [<-di hf] at eS;refine ip (λe1=>?_) (λe1=>?_)
   ·rw [if_pos e1] at eS;refine ⟨_,rfl,_,rfl,aL F1.key ⟨(by show 2<=sizeLine;decide),λp6 hp6=>?_⟩⟩;have s2:aD H1 (upd H1 p6 (.tup [.int (pay s af f c), .int f.key])):=aD.new hp6;have F2:=F1.mono s2;have RM:=s2 _ _ hz;refine ⟨_,rfl,_,rfl,d,rfl, .inl ⟨_, .inl RM⟩,_,rfl,aL F2.group ⟨_,rfl,_,j0.k (k:=az f.group) RM,?_⟩⟩;have hn6:d≠p6:=aG hz hp6;cases hv:cr (qa Z) (az f.group) with
    |none=>
     refine ⟨p6,p6,[pay s af f c,f.key],[pay s af f c,f.key],rfl, .of ak, .of ak,?_⟩;rw [fP,if_neg aI];refine ⟨_,rfl,_,rfl,aL F2.group ⟨d,_,rfl,nX.k (k:=az f.group) RM ?_,aD.put (s1.trans s2) hd,⟨_,_,_,rfl⟩,_,?_,eS▸hG.new (p:=p6) (KR hv),?_,?_⟩⟩
     ·unfold qa;rw [ab];have:sizeLine=16777216:=af5;omega
     ·rw [ak,zq (a:=pay s af f c) (k:=f.key) hv]
     ·rw [aK];simp only [gd];omega
     ·intro z BW;rcases bF.mp BW with y|y
      ·exact bm (s2 _ _ (ht z y)) (i8 (s2 _ _ (ht z y)) RM rfl)
      ·cases aR.mp y;exact bm ak hn6.symm
    |some v=>
     obtain ⟨a0,k0,p0,rfl,Xx⟩:=KQ hv;refine ⟨p6,p0,[pay s af f c,f.key],[a0,k0],rfl, .of ak, .of (s2 _ _ (ht _ Xx)),?_⟩;have ev:V.ref (if rowLess [a0,k0] [pay s af f c,f.key]=true then p0 else p6)=V.ref (if rowLess [a0,k0] [pay s af f c,f.key]=true then ((a0,k0),p0) else ((pay s af f c,f.key),p6)).2:=by
      cases rowLess [a0,k0] [pay s af f c,f.key] <;>rfl
     rw [ev];refine ⟨_,rfl,_,rfl,aL F2.group ⟨d,_,rfl,nX.k (k:=az f.group) RM ?_,aD.put (s1.trans s2) hd,⟨_,_,_,rfl⟩,_,?_,eS▸hG.old (p:=p6) Xx,?_,?_⟩⟩
     ·unfold qa;rw [ab];have:sizeLine=16777216:=af5;omega
     ·rw [ak,zp hv]
     ·unfold xa;rw [ab];omega
     ·intro z BW;unfold xa at BW;obtain ⟨y,hy,e⟩:=aj.mp BW;by_cases c1:y.1=f.group
      ·rw [if_pos c1] at e;cases c2:rowLess [a0,k0] [pay s af f c,f.key] with
       |true=>
        rw [c2,if_pos rfl] at e;cases e;exact bm (s2 _ _ (ht _ Xx)) (i8 (s2 _ _ (ht _ Xx)) RM rfl)
       |false=>
        rw [c2,if_neg aI] at e;cases e;exact bm ak hn6.symm
      ·rw [if_neg c1] at e;cases e;exact bm (s2 _ _ (ht _ hy)) (i8 (s2 _ _ (ht _ hy)) RM rfl)
   ·rw [if_neg (by rw [e1];exact aI)] at eS;exact ⟨s1,⟨_,_,_,rfl⟩,Z,hz,eS▸hG,by omega,ht⟩
  ·rintro σ H1 ⟨s1,⟨v4,v5,v6,rfl⟩,Z,hz,hG,hZl,ht⟩;rw [ab,ho.1,bo] at hG;rw [ab,ho.1] at hZl;exact ⟨_,rfl,q H1 d s1 hd ⟨Z,hz,hG,ht,aV hZl xm⟩⟩
end
end Lf
namespace Lf
open Vbahaf (rowLess least pay cut bestPair dayOf)
def tr (z:Int×(Int×Int)×Addr):Int×Int×Int:=(z.1,z.2.1.1,z.2.1.2)
def joinR (s:ag) (x y:Int×(Int×Int)×Addr):List Int:= [x.2.1.1+y.2.1.1,x.2.1.2,y.2.1.2]
def rowOne (s:ag) (x:Int×(Int×Int)×Addr) (B:Zs):List (List Int):=(B.filter λy=>s.combos.contains (x.1,y.1)).map (joinR s x)
def i7 (s:ag) (A B:Zs):List (List Int):=A.flatMap λx=>rowOne s x B
theorem A7 (s:ag) (A B:Zs) (x:Int×(Int×Int)×Addr):i7 s (A++ [x]) B=i7 s A B++rowOne s x B:=by unfold i7;rw [cc];simp
theorem sD (s:ag) (x y:Int×(Int×Int)×Addr) (B:Zs):rowOne s x (B++ [y])=if s.combos.contains (x.1,y.1)=true then rowOne s x B++ [joinR s x y] else rowOne s x B:=by
 unfold rowOne;rw [cD,aP,br];cases s.combos.contains (x.1,y.1)<;>simp
theorem u5 (s:ag) (x:Int×(Int×Int)×Addr) (B:Zs):(rowOne s x B).length<=B.length:=by unfold rowOne;rw [ab];exact aO _ _
theorem u7 (s:ag) (B:Zs): ∀(A:Zs),(i7 s A B).length<=A.length*B.length
 | []=>bw _
 |x::A=>by
  have ih:=u7 s B A;have:=u5 s x B;unfold i7 at ih⊢;rw [bB,aK,aS,tS];omega
theorem zA {s:ag} {A B:List (Int×Int×Int)} {ZA ZB:Zs} (gA:GN A ZA) (gB:GN B ZB):
  least (i7 s ZA ZB)=least (A.flatMap λx=>(B.filter λy=>s.combos.contains (x.1,y.1)).map λy=> [x.2.1+y.2.1,x.2.2,y.2.2]):=by
 have mem: ∀{A:List (Int×Int×Int)} {Z:Zs},GN A Z->∀g a k,(g,a,k)∈Z.map tr↔least (rowsOf A g)=some [a,k]:=λ{A Z} G g a k=>by
  rw [<-G.is g a k];constructor
  ·intro h;obtain ⟨⟨g',⟨a',k'⟩,p⟩,hz,e⟩:=aj.mp h;cases e;exact ⟨p,hz⟩
  ·intro ⟨p,hz⟩;exact aj.mpr ⟨_,hz,rfl⟩
 rw [<-zC (R:=λg h=>s.combos.contains (g,h)) (mem gA) (mem gB)];unfold i7 rowOne;rw [ux]
 congr 1
 refine cO λx _=>?_;rw [ib,bi];rfl
structure LR (H H':Hp) (d1 d2 lf:Addr) (o1 o2:HO) (ZA ZB:Zs) (rows:List (List Int)):Prop where
 base:aD H H'
 h1:H' d1=some o1
 h2:H' d2=some o2
 ta: ∀z∈ZA,H' z.2.2=some (.tup [.int z.2.1.1, .int z.2.1.2])
 tb: ∀z∈ZB,H' z.2.2=some (.tup [.int z.2.1.1, .int z.2.1.2])
 Wm: ∃ps:List Addr,H' lf=some (.lst (ps.map V.ref))/\bQ (λp r=>H' p=some (.tup (r.map V.int))) ps rows
theorem LR.mono {H H' SV:Hp} {d1 d2 lf:Addr} {o1 o2:HO} {ZA ZB:Zs} {rows:List (List Int)} (h:LR H H' d1 d2 lf o1 o2 ZA ZB rows) (s:aD H' SV):LR H SV d1 d2 lf o1 o2 ZA ZB rows:=by
 obtain ⟨ps,f1,f2⟩:=h.Wm;exact ⟨h.base.trans s,s _ _ h.h1,s _ _ h.h2,λz hz=>s _ _ (h.ta z hz),λz hz=>s _ _ (h.tb z hz),ps,s _ _ f1,f2.mono λ_ _ z=>s _ _ z⟩
theorem LR.PX {H H':Hp} {d1 d2 lf:Addr} {o1 o2:HO} {ZA ZB:Zs} {rows:List (List Int)} (h:LR H H' d1 d2 lf o1 o2 ZA ZB rows) (n:H d2=none) (ne:d1≠d2) (hl:lf≠d2) (ht: ∀xs,HO.tup xs≠o2) (o:HO):LR H (upd H' d2 o) d1 d2 lf o1 o ZA ZB rows:=by
 obtain ⟨ps,f1,f2⟩:=h.Wm;exact ⟨aD.put h.base n,bm h.h1 ne,ak,λz hz=>bm (h.ta z hz) (qB (h.ta z hz) h.h2 (ht _)),λz hz=>bm (h.tb z hz) (qB (h.tb z hz) h.h2 (ht _)),ps,bm f1 hl,f2.mono λ_ _ z=>bm z (qB z h.h2 (ht _))⟩
theorem LR.PY {H H':Hp} {d1 d2 lf:Addr} {o1 o2:HO} {ZA ZB:Zs} {rows:List (List Int)} (h:LR H H' d1 d2 lf o1 o2 ZA ZB rows) (n:H d1=none) (ne:d1≠d2) (hl:lf≠d1) (ht: ∀xs,HO.tup xs≠o1) (o:HO):LR H (upd H' d1 o) d1 d2 lf o o2 ZA ZB rows:=by
 obtain ⟨ps,f1,f2⟩:=h.Wm;exact ⟨aD.put h.base n,ak,bm h.h2 ne.symm,λz hz=>bm (h.ta z hz) (qB (h.ta z hz) h.h1 (ht _)),λz hz=>bm (h.tb z hz) (qB (h.tb z hz) h.h1 (ht _)),ps,bm f1 hl,f2.mono λ_ _ z=>bm z (qB z h.h1 (ht _))⟩
inductive sS (K:aa) (vs:List V) (H:Hp) (Q:VK):Prop
 |mk (h:HA) (s:ag) (fl:List aq) (j:ai) (af:Int) (oa ob:Addr) (i e i' e':Nat) (B B':Addr->Prop):vs= [.ref h.a, .ref oa, .ref ob]->aZ K H h s fl->s.journey=some j->dq K H B s fl j af i e oa->dq K H B' s fl j af i' e' ob->(∀H',aD H H'->bestPair s j af (cut j i e) (cut j i' e')=none->Q .fE H')->(∀(H':Hp) (p:Addr) (a k m:Int),aD H H'->bestPair s j af (cut j i e) (cut j i' e')=some [a,k,m]->H' p=some (.tup [.int a, .int k, .int m])->Q (.ref p) H')->sS K vs H Q
def pB (K:aa):Sp:=λvs H Q _=>sS K vs H Q
section
theorem gW:ba ["house","out_offers","home_offers","out","home","needed","stay","outs","homes","found","group_out","by_out","group_home","by_home"] ["house","out_offers","home_offers"] (aM (top 63)):=fi
theorem OT (D:Dn K mg "least_return" (top 63) ["house","out_offers","home_offers"]) (b:Bl mg) (G1:Fn P w K mg base "digits_needed" 1 ["out","home"] (uN K)) (G2:Fn P w K mg base "least_by_group" 2 ["offers","needed","stay"] (Fq K)) (G3:Fn P w K mg base "go_together" 1 ["house","group_out","group_home"] (pA K)):
  Fn P w K mg base "least_return" 3 ["house","out_offers","home_offers"] (pB K):=by
 refine D.go gW λf db A outer s H vs Q E hr h=>?_
 ·intro Xc;obtain ⟨h,s,fl,j,af,oa,ob,i,e,i',e',B,B',rfl,hh,hj,ha,hb,q0,q1⟩:=h;obtain ⟨ca,OZ,rl⟩:=ha.comp;obtain ⟨cb,fcb,R6⟩:=hb.comp;obtain ⟨lo,flo,hlo⟩:=ha.outs;obtain ⟨lh,flh,hlh⟩:=hb.VH;have F4:=xr hh.perm j af (cut j i e) (cut j i' e');have mem: ∀(ok:aq->Bool),(∀f∈fl.filter ok,f∈s.fares)/\(fl.filter ok).length<=60:=λok=>⟨λf hf=>hh.perm.mem_iff.mp (au.mp hf).1,aV (aO _ _) (by rw [hh.perm.length_eq];exact hh.ok.fl)⟩
  refine ⟨_,(am (st 3 gW.nd (aT (pv 1) rfl))
   (am (st 4 gW.nd (aT (pv 2) rfl))
   (am (st 5 gW.nd (pc G1 hr (ae (pv 3) (ae (pv 4) ax))))
   (am (cE (fT (jE (pv 5)))
    (aA (aX lS))
    bI)
   (am (st 6 gW.nd (bX fU (aT (pv 4) rfl) (aT (pv 3) rfl)))
   (am (st 7 gW.nd (pc G2 hr (ae (aT (pv 1) rfl) (ae (pv 5) (ae (pv 6) ax)))))
   (am (st 8 gW.nd (pc G2 hr (ae (aT (pv 2) rfl) (ae (pv 5) (ae (pv 6) ax)))))
   (am (st 9 gW.nd (bJ ax))
   (am (FB (dk PassesOwn.never rfl (Bp (pv 7)) (km rfl (cF (gn 10 gW.nd) (cF (gn 11 gW.nd) gX)))
    (aA (FB (dk PassesOwn.never rfl (Bp (pv 8)) (km rfl (cF (gn 12 gW.nd) (cF (gn 13 gW.nd) gX)))
    (aA (cE (eK (pc G3 hr (ae (pv 0) (ae (pv 10) (ae (pv 12) ax)))))
    (aA (eD (Cg (pv 9) (fB (ae (bX fD (bf cI (pv 11) aF (λ_ _=>rfl)) (bf cI (pv 13) aF (λ_ _=>rfl))) (ae (bf cI (pv 11) aF (λ_ _=>rfl)) (ae (bf cI (pv 13) aF (λ_ _=>rfl)) ax)))))))
    bI)))))))
   (aA (aX (FI rfl hr.units b.min (pv 9))))))))))))),?_⟩
  refine YF ?_
  intros
  refine ⟨_,rfl,aL OZ ?_⟩;refine ⟨_,rfl,aL fcb ?_⟩;refine ⟨_,rfl,_,rfl,ca,cb,s,j,i,e,i',e',B,B',rfl,rl,R6,?_⟩;refine ⟨_,rfl,_,rfl,?_⟩;cases hE:Ends (cut j i e) (cut j i' e') with
  |none=>
   rw [hE] at F4;exact q0 H (aD.refl H) F4
  |some n=>
   rw [hE] at F4;have hn:n=0∨n=1∨n=2:=by
    rcases vW (cut j i e) (cut j i' e') with z|z|z|z<;>rw [hE] at z<;>cases z
    ·exact .inl rfl
    ·exact .inr (.inl rfl)
    ·exact .inr (.inr rfl)
   refine ⟨_,rfl,aL R6.day ⟨_,rfl,aL rl.day ⟨_,_,rfl,rfl,?_⟩⟩⟩;refine ⟨_,rfl,aL flo ⟨_,rfl,_,rfl,lo,s,af,cut j i e,_,n,_,B,rfl,hlo,(mem _).1,hh.ok,hn,(mem _).2,λH1 d1 s1 n1 g1=>?_⟩⟩;refine ⟨_,rfl,aL (flh.mono s1) ⟨_,rfl,_,rfl,lh,s,af,cut j i' e',_,n,_,B',rfl,hlh.mono s1,(mem _).1,hh.ok,hn,(mem _).2,λH2 d2 s2 n2 g2=>?_⟩⟩;obtain ⟨ZA,a1,a2,a3,a4⟩:=g1.mono s2;obtain ⟨ZB,b1,b2,b3,b4⟩:=g2;have Oi:d1≠d2:=by
    obtain ⟨_,z,_⟩:=g1;exact aG z n2
   refine ⟨bw _,λlf Ic=>?_⟩;have rh:lf≠d1:=(aG a1 Ic).symm;have U5:lf≠d2:=(aG b1 Ic).symm;have n2':H d2=none:=s1.free n2;have s3:aD H2 (upd H2 lf (.lst [])):=aD.new Ic;have U4:H lf=none:=(s1.trans s2).free Ic;have L0:LR H (upd H2 lf (.lst [])) d1 d2 lf (.dK (qa ZA)) (.dK (qa ZB)) ZA ZB []:=⟨(s1.trans s2).trans s3,s3 _ _ a1,s3 _ _ b1,λz hz=>s3 _ _ (a3 z hz),λz hz=>s3 _ _ (b3 z hz),[],ak,bQ.nil⟩
   refine ⟨d1,_,L0.h1,eZ,λod=>?_⟩;have L1:=L0.PY n1 Oi rh (λ_=>KH rfl) (.kY od (.dK (qa ZA)));refine ⟨_,rfl,d1,od,_,rfl,L1.h1,l5 (n:=ZA.length) (λm σ H'=>(∃v10 v11 AG QK,σ= [some (.ref h.a),some (.ref oa),some (.ref ob),some (.ref ca),some (.ref cb),some (.int n),some (.int (dayOf (cut j i' e')-dayOf (cut j i e))),some (.ref d1),some (.ref d2),some (.ref lf),v10,v11,AG,QK])/\LR H H' d1 d2 lf (.kY od (.dK (qa ZA))) (.dK (qa ZB)) ZA ZB (i7 s (ZA.take m) ZB))
    ⟨⟨_,_,_,_,rfl⟩,L1⟩ (λm σ H' hm zz=>⟨zz.2.h1,by unfold qa;rw [ab];exact hm⟩) (λσ H' zz=>⟨zz.2.h1,by unfold qa;rw [ab];exact ay _⟩) ?_ ?_⟩
   ·rintro _ _ _ m σ H3 x H3' hm ⟨⟨v10,v11,AG,QK,rfl⟩,L⟩ ⟨T,ky,v,F6,rfl,hT,rfl⟩;obtain ⟨z,hz⟩: ∃z,ZA[m]?=some z:=⟨_,ao hm⟩
    have hzm:=aH hz;unfold qa at F6;rw [bp,hz] at F6;cases F6;refine ⟨T,_,rfl, .of ak,rfl,_,_,rfl,_,_,rfl,rfl,?_⟩;have L2':=L.mono (aD.new (o:= .tup [.int z.1, .ref z.2.2]) hT);refine ⟨d2,_,L2'.h2,eZ,λY7=>?_⟩;have L3:=L2'.PX n2' Oi U5 (λ_=>KH rfl) (.kY Y7 (.dK (qa ZB)));refine ⟨_,rfl,d2,Y7,_,rfl,L3.h2,l5 (n:=ZB.length) (λk σ H'=>(∃AG QK,σ= [some (.ref h.a),some (.ref oa),some (.ref ob),some (.ref ca),some (.ref cb),some (.int n),some (.int (dayOf (cut j i' e')-dayOf (cut j i e))),some (.ref d1),some (.ref d2),some (.ref lf),some (.int z.1),some (.ref z.2.2),AG,QK])/\LR H H' d1 d2 lf (.kY od (.dK (qa ZA))) (.kY Y7 (.dK (qa ZB))) ZA ZB (i7 s (ZA.take m) ZB++rowOne s z (ZB.take k)))
     ⟨⟨_,_,rfl⟩,(by rw [show i7 s (ZA.take m) ZB++rowOne s z (ZB.take 0)=i7 s (ZA.take m) ZB from by simp [rowOne]];exact L3)⟩ (λm σ H' hm zz=>⟨zz.2.h2,by unfold qa;rw [ab];exact hm⟩) (λσ H' zz=>⟨zz.2.h2,by unfold qa;rw [ab];exact ay _⟩) ?_ ?_⟩
    ·rintro _ _ _ k σ H4 x H4' hk ⟨⟨AG,QK,rfl⟩,L⟩ ⟨T2,ky,v,F6,rfl,Ll,rfl⟩;obtain ⟨y,hy⟩: ∃y,ZB[k]?=some y:=⟨_,ao hk⟩
     have Zu:=aH hy;unfold qa at F6;rw [bp,hy] at F6;cases F6;refine ⟨T2,_,rfl, .of ak,rfl,_,_,rfl,_,_,rfl,rfl,?_⟩;have L5:=L.mono (aD.new (o:= .tup [.int y.1, .ref y.2.2]) Ll);refine ⟨_,rfl,_,rfl,_,rfl,h,s,fl,z.1,y.1,rfl,hh.mono L5.base,λH5 s5=>⟨_,rfl,?_⟩⟩;have L6:=L5.mono s5;refine ip (λe1=>?_) (λe1=>?_)
     ·obtain ⟨ps,f1,f2⟩:=L6.Wm;have tz:=L6.ta z hzm;have ty:=L6.tb y Zu;refine ⟨_,rfl, .inl ⟨rfl,_, .of f1⟩,_,rfl,z.2.2,_,0,_,rfl,rfl, .of tz,at_of (j:=0) rfl rfl,_,rfl,y.2.2,_,0,_,rfl,rfl, .of ty,at_of (j:=0) rfl rfl,_,_,rfl,rfl,_,rfl,z.2.2,_,1,_,rfl,rfl, .of tz,at_of (j:=1) rfl rfl,_,rfl,y.2.2,_,1,_,rfl,rfl, .of ty,at_of (j:=1) rfl rfl,(by show 3<=sizeLine;decide),λp3 Xt=>?_⟩;have L7:=L6.mono (aD.new (o:= .tup [.int (z.2.1.1+y.2.1.1), .int z.2.1.2, .int y.2.1.2]) Xt);have f3:=bm (o':= .tup [.int (z.2.1.1+y.2.1.1), .int z.2.1.2, .int y.2.1.2]) f1 (aG f1 Xt);refine ⟨lf,_,_,rfl,rfl,f3,?_,⟨_,_,rfl⟩,?_⟩
      ·rw [ab,f2.1,aK];have h1:=u7 s ZB (ZA.take m);have h2:=u5 s z (ZB.take k);have h3:(ZA.take m).length*ZB.length<=60*60:=Nat.mul_le_mul (by rw [bc];omega) b4;rw [bc] at h2;have:sizeLine=16777216:=af5;omega
      ·rw [di hy,sD,if_pos e1];have kl: ∀{p:Addr} {xs:List V},(upd H5 p3 (.tup [.int (z.2.1.1+y.2.1.1), .int z.2.1.2, .int y.2.1.2])) p=some (.tup xs)->p≠lf:=λ{p xs} z=>i8 z f3 rfl;refine ⟨aD.put L7.base U4,bm L7.h1 rh.symm,bm L7.h2 U5.symm,λz hz=>bm (L7.ta z hz) (kl (L7.ta z hz)),λz hz=>bm (L7.tb z hz) (kl (L7.tb z hz)),ps++ [p3],?_,?_⟩
       ·rw [ak];exact congrArg (λl=>some (HO.lst l)) (dP ps p3)
       ·rw [<-cp];exact (f2.mono λa c z=>vH z Xt (i8 z f1 rfl)).snoc (bm ak (aG f1 Xt).symm)
     ·refine ⟨⟨_,_,rfl⟩,?_⟩;rw [di hy,sD,if_neg (by rw [e1];exact aI)];exact L6
    ·rintro σ H4 ⟨⟨AG,QK,rfl⟩,L⟩;rw [bo] at L;refine ⟨L.h2,⟨_,_,_,_,rfl⟩,?_⟩;rw [di hz,A7];exact L.PX n2' Oi U5 (λ_=>KH rfl) _
   ·rintro σ H3 ⟨⟨v10,v11,AG,QK,rfl⟩,L⟩;rw [bo] at L;refine ⟨L.h1,?_⟩;have L9:=L.PY n1 Oi rh (λ_=>KH rfl) (.dK (qa ZA));obtain ⟨ps,f1,f2⟩:=L9.Wm;have hbp:bestPair s j af (cut j i e) (cut j i' e')=least (i7 s ZA ZB):=by rw [F4,zA a2 b2]
    refine ⟨_,rfl,lf,ps,_,rfl, .of f1,f2.mono λ_ _ z=> .of z,λhp0=>?_,λk p r hp Ia hl=>?_⟩
    ·refine q0 _ L9.base ?_;rw [hbp,dm];have:=f2.1;rw [hp0] at this;exact bq.mp this.symm
    ·obtain ⟨x,hx,Tn⟩:=aW.mp (aH Ia);obtain ⟨y,hy,e3⟩:=aj.mp Tn;have M6:=f2.2 k p r hp Ia;subst e3;exact q1 _ p _ _ _ L9.base (by rw [hbp];exact hl) M6
end
end Lf
namespace Lf
open Vbahaf (rowLess least pay cut bestPair bestSingle single)
theorem Rj (a b:Nat):Builtin.bitOr (a:Int) (b:Int)=((a|||b:Nat):Int):=by
 unfold Builtin.bitOr Builtin.bitAnd Builtin.bitNot;rw [decide_eq_false (by omega: ¬(0:Int)<= -(a:Int)-1),decide_eq_false (by omega: ¬(0:Int)<= -(b:Int)-1)];show-(-(((-(-(a:Int)-1)-1).toNat|||(-(-(b:Int)-1)-1).toNat:Nat):Int)-1)-1=_;have e1:(-(-(a:Int)-1)-1).toNat=a:=by omega
 have e2:(-(-(b:Int)-1)-1).toNat=b:=by omega
 rw [e1,e2];omega
theorem Gp (a b:Nat):Builtin.bitAnd (a:Int) (b:Int)=((a&&&b:Nat):Int):=by
 unfold Builtin.bitAnd;rw [decide_eq_true (by omega:(0:Int)<=(a:Int)),decide_eq_true (by omega:(0:Int)<=(b:Int))];rfl
theorem AT (a:Nat):uO (a,a)=0:=by unfold uO;exact tT _
theorem JQ (a m:Nat):uO (a,a+m)|||2^(a+m)=uO (a,a+(m+1)):=by
 refine js λx=>?_;have e0:(uO (a,a+(m+1))).testBit x=i9 (a,a+(m+1)) x:=lN (by show a<a+(m+1);omega) x;rw [Au,Nat.testBit_two_pow,e0];have e:(uO (a,a+m)).testBit x=(decide (a<=x)&&decide (x<a+m)):=by
  cases m with
  |zero=>
   rw [oe,AT,jc];symm;simp
  |succ m=>
   exact lN (by show a<a+(m+1);omega) x
 rw [e];unfold i9;rw [bC];simp;omega
def mj (cs:List (cP×Int×Option cP)):Nat:=cs.foldl (λm c=>m|||uO c.1) 0
theorem Eh (cs:List (cP×Int×Option cP)) (c:cP×Int×Option cP):mj (cs++ [c])=mj cs|||uO c.1:=by unfold mj;rw [MS];rfl
theorem HM (s:ag) (j:ai) (af:Int) (u:Un):mj (jV s j af u)=d4 u:=by
 unfold jV d4 mj;cases u.2 with
 |none=>show 0|||uO u.1=uO u.1;exact Ym _
 |some q=>show (0|||uO u.1)|||uO q=_;rw [Ym]
def Ak (H:Hp) (l:Addr) (cs:List (cP×Int×Option cP)):Prop:= ∃ps:List Addr,H l=some (.lst (ps.map V.ref))/\bQ (λp x=>H p=some (.tup ((nE x).map V.int))) ps cs
inductive yH (K:aa) (C:Addr) (vs:List V) (H:Hp) (Q:VK):Prop
 |mk (x dx l:Addr) (vh:Int) (cs:List (cP×Int×Option cP)):vs= [.ref x, .int vh, .ref l]->H x=some (.ins C dx [])->Ak H l cs->(∀c∈cs,c.1.1<c.1.2/\c.1.2<=8)->(∀H':Hp,dB x H H'->gF K H' x "paid" (.int vh)->gF K H' x "parts" (.ref l)->gF K H' x "covers" (.int (mj cs:Nat))->Q .fE H')->yH K C vs H Q
def uR (K:aa) (C:Addr):Sp:=λvs H Q _=>yH K C vs H Q
section
theorem DX:ba ["self","paid","parts","part","segment"] ["self","paid","parts"] (aM (inClass (top 85) 0)):=fi
theorem SJ (k:Ks K mg t) (b:Bl mg):Cl P w K mg base "Choice" t.Choice 1 ["self","paid","parts"] (uR K t.Choice):=by
 refine k.Choice.go DX λf cl db A outer s H vs Q E hr h=>?_
 ·intro Xc;obtain ⟨x,dx,l,vh,cs,rfl,hx,⟨ps,hl,hp⟩,hc,q⟩:=h;refine ⟨_,(am (bW (pv 0) (pv 1) rfl)
   (am (bW (pv 0) (pv 2) rfl)
   (am (bW (pv 0) aF rfl)
   (aA (dk PassesOwn.never rfl (cC (pv 2)) (gn 3 DX.nd)
    (aA (dk PassesOwn.never rfl (iC rfl b.range (ae (bf cI (pv 3) aF (λ_ _=>rfl)) (ae (bX fD (bf cI (pv 3) aF (λ_ _=>rfl)) aF) ax))) (gn 4 DX.nd)
    (aA (bW (pv 0) (bX UX (aT (pv 0) rfl) (bX zr aF (pv 4))) rfl))))))))),?_⟩
  refine mL ?_
  intros
  refine ⟨_,rfl,_,rfl,sN (Ex hx) cl k.sX λH1 h1 b1=>?_⟩;refine ⟨_,rfl,_,rfl,sN h1 cl k.qX λH2 h2 b2=>?_⟩;refine ⟨_,rfl,sN h2 cl k.iN λH3 h3 b3=>?_⟩;have B3:dB x H H3:=(b1.trans b2).trans b3;have nl:l≠x:=i8 hl hx rfl;let fx:Int->List (Str×V):=λm=> [("paid", .int vh),("parts", .ref l),("covers", .int m)]
  have h3:H3 x=some (.ins t.Choice dx (fx ((mj (cs.take 0):Nat):Int))):=h3.1;refine ⟨_,rfl,l,rfl,⟨_, .of (B3 _ _ nl hl)⟩,eQ (K:=K) (a:=l) (xs:=ps.map V.ref) (λn σ H'=>(∃v3 v4,σ= [some (.ref x),some (.int vh),some (.ref l),v3,v4])/\dB x H H'/\H' x=some (.ins t.Choice dx (fx ((mj (cs.take n):Nat):Int)))) ⟨⟨_,_,rfl⟩,B3,h3⟩ (λn σ H' _ zz=> .of (zz.2.1 _ _ nl hl)) ?_ ?_⟩
  ·rintro _ _ _ n y σ H4 hy ⟨⟨v3,v4,rfl⟩,B4,h4⟩;obtain ⟨p,RS,rfl⟩:=b0 hy;obtain ⟨c,nv,pt⟩:=hp.get' RS;obtain ⟨c1,c2⟩:=hc c (aH nv);have Dk:p≠x:=i8 pt hx rfl;have p4:=B4 _ _ Dk pt;refine ⟨_,rfl,p,_,0,_,rfl,rfl, .of p4,at_of (j:=0) rfl rfl,_,rfl,p,_,1,_,rfl,rfl, .of p4,at_of (j:=1) rfl rfl,_,_,rfl,rfl,_,_,rfl,⟨by omega,by omega,by omega,by omega⟩,?_⟩;refine g8 (lo:=(c.1.1:Int)) (λm σ H'=>(∃v4,σ= [some (.ref x),some (.int vh),some (.ref l),some (.ref p),v4])/\dB x H H'/\H' x=some (.ins t.Choice dx (fx ((mj (cs.take n)|||uO (c.1.1,c.1.1+m):Nat):Int)))) ⟨⟨_,rfl⟩,B4,by rw [oe,AT,Nat.or_zero];exact h4⟩ ?_ ?_
   ·rintro _ _ _ m σ H5 hm ⟨⟨v4,rfl⟩,B5,h5⟩;refine ⟨_,rfl,aL ⟨_,_,_,h5,cl,k.iN,rfl⟩ ⟨_,rfl,_,_,rfl,rfl,⟨by omega,by omega,by decide⟩,_,_,rfl,rfl,_,rfl,x,_,_,_,rfl,h5,cl,k.iN,(by show 3<1000;decide),⟨_,rfl⟩,B5.trans dB.upd,?_⟩⟩;rw [ak];have e1:((c.1.1:Int)+(m:Int)).toNat=c.1.1+m:=by omega
    have e2:(1:Int)*2^((c.1.1:Int)+(m:Int)).toNat=((2^(c.1.1+m):Nat):Int):=by rw [e1,Yp];simp
    show some (HO.ins t.Choice dx (kU "covers" (V.int (Builtin.bitOr ((mj (cs.take n)|||uO (c.1.1,c.1.1+m):Nat):Int) ((1:Int)*2^((c.1.1:Int)+(m:Int)).toNat))) (fx ((mj (cs.take n)|||uO (c.1.1,c.1.1+m):Nat):Int))))=_;rw [e2,Rj,Nat.or_assoc,JQ];rfl
   ·rintro σ H5 ⟨⟨v4,rfl⟩,B5,h5⟩;refine ⟨⟨_,_,rfl⟩,B5,?_⟩;have e:c.1.1+(((c.1.2:Int)-1+1)-(c.1.1:Int)).toNat=c.1.2:=by omega
    rw [e] at h5;rw [di nv,Eh];exact h5
  ·rintro σ H4 ⟨⟨v3,v4,rfl⟩,B4,h4⟩;rw [ab,hp.1,bo] at h4;exact q H4 B4 ⟨_,_,_,h4,cl,k.sX,rfl⟩ ⟨_,_,_,h4,cl,k.qX,rfl⟩ ⟨_,_,_,h4,cl,k.iN,rfl⟩
end
end Lf
namespace Lf
open Vbahaf (rowLess least pay cut bestPair bestSingle single)
theorem gT (K:aa) {X:Cx} {es:List af0} {k:Nat} {t:Nf} {n:Nat} {pos:Pos} (hc:X.calm=true) (h:WQ X es t) (hn:(agw es X.env).length=n:=by rfl) (RP:(agw es X.env).findIdx? (·.1)=none:=by rfl) (hK:X.K=K:=by rfl):PG X (.Tuple es k pos) (Wi K n t):=hK▸km hc h hn RP
def pT (H:Hp) (l:Addr) (rows:List (List Int)):Prop:= ∃ps:List Addr,H l=some (.lst (ps.map V.ref))/\bQ (λp r=>H p=some (.tup (r.map V.int))) ps rows
theorem pT.put {H:Hp} {D p:Addr} {ps:List Addr} {rows:List (List Int)} {r:List Int} {xs:List V} (e:xs=r.map V.int) (h1:H D=some (.lst (ps.map V.ref))) (h2:bQ (λp r=>H p=some (.tup (r.map V.int))) ps rows) (hp:H p=none):
  pT (upd (upd H p (.tup xs)) D (.lst (ps.map V.ref++ [.ref p]))) D (rows++ [r]):=by
 refine ⟨ps++ [p],by rw [ak,dP],?_⟩;exact (h2.mono λa b z=>vH z hp (i8 z h1 rfl)).snoc (by rw [bK (aG h1 hp).symm,ak,e])
def me (K:aa) (H:Hp) (B:Addr->Prop) (s:ag) (j:ai) (af:Int) (l:Addr) (us:List Un):Prop:= ∃lH:List Addr,H l=some (.lst (lH.map V.ref))/\bQ (eh K H B s j af) lH us
theorem me.mono {K:aa} {H H':Hp} {B:Addr->Prop} {s:ag} {j:ai} {af:Int} {l:Addr} {us:List Un} (h:me K H B s j af l us) (e:aD H H'):me K H' B s j af l us:=by
 obtain ⟨lH,h1,h2⟩:=h;exact ⟨lH,e _ _ h1,h2.mono λ_ _ z=>z.mono e⟩
def one (s:ag) (j:ai) (af:Int) (u:Un):List Un:=if (tJ s j af u).isSome=true then [u] else []
theorem Cp {K:aa} {H0 H H2:Hp} {x dx C l:Addr} {vh:Int} {cs:List (cP×Int×Option cP)} {s:ag} {j:ai} {af:Int} {u:Un} (nx:H x=none) (tD:H dx=none) (s0:aD H0 H) (n0:H0 l=none) (hP:Ak H l cs) (Nb:cs=jV s j af u) (hp:vh=pd s j af u) (hb:(tJ s j af u).isSome=true)
  (b:dB x (upd (upd H dx (.own x)) x (.ins C dx [])) H2) (f1:gF K H2 x "paid" (.int vh)) (f2:gF K H2 x "parts" (.ref l)) (f3:gF K H2 x "covers" (.int (mj cs:Nat))):aD H0 H2/\eh K H2 (λb=> ∃o,H0 b=some o) s j af x u:=by
 have sm:=dQ (C:=C) nx tD;have s2:aD H H2:=dB.same sm nx b;refine ⟨s0.trans s2,hb,by rw [<-hp];exact f1,?_,by rw [<-HM s j af u, <-Nb];exact f3⟩;obtain ⟨ps,h1,h2⟩:=hP;exact ⟨l,ps,(λzz=>by obtain ⟨o,z⟩:=zz;rw [n0] at z;cases z),f2,s2 _ _ h1,by rw [<-Nb];exact h2.mono λ_ _ z=>s2 _ _ z⟩
inductive CL (K:aa) (vs:List V) (H:Hp) (Q:VK):Prop
 |mk (s:ag) (fl:List aq) (j:ai) (af:Int) (i e:Nat) (oa:Addr) (B:Addr->Prop):vs= [.ref oa]->dq K H B s fl j af i e oa->fl.Perm s.fares->fl.length<=60->j.segs.length<=8->(∀(H':Hp) (l:Addr),aD H H'->H l=none->me K H' (λb=> ∃o,H b=some o) s j af l (one s j af ((i,e),none))->Q (.ref l) H')->CL K vs H Q
def Fl (K:aa):Sp:=λvs H Q _=>CL K vs H Q
inductive GD (K:aa) (vs:List V) (H:Hp) (Q:VK):Prop
 |mk (h:HA) (s:ag) (fl:List aq) (j:ai) (af:Int) (i e i' e':Nat) (oa ob:Addr) (B B':Addr->Prop):vs= [.ref h.a, .ref oa, .ref ob]->aZ K H h s fl->s.journey=some j->dq K H B s fl j af i e oa->dq K H B' s fl j af i' e' ob->j.segs.length<=8->(∀(H':Hp) (l:Addr),aD H H'->H l=none->me K H' (λb=> ∃o,H b=some o) s j af l (one s j af ((i,e),some (i',e')))->Q (.ref l) H')->GD K vs H Q
def JN (K:aa):Sp:=λvs H Q _=>GD K vs H Q
section
theorem kO:ba ["offers","least","component","paid","fare"] ["offers"] (aM (top 86)):=fi
theorem LF (D:Dn K mg "single_choices" (top 86) ["offers"]) (b:Bl mg) (c:Cs mg) (G:Cl P w K mg base "Choice" t.Choice 1 ["self","paid","parts"] (uR K t.Choice)):
  Fn P w K mg base "single_choices" 3 ["offers"] (Fl K):=by
 refine D.go kO λf db A outer s H vs Q E hr h=>?_
 ·intro Xc;obtain ⟨s,fl,j,af,i,e,oa,B,rfl,ho,ml,xm,h8,q⟩:=h;obtain ⟨ls,Wu,nb,ps,hl,hp⟩:=ho.singles;obtain ⟨ca,OZ,rl⟩:=ho.comp;have hbs:=Br ml j af (cut j i e);have hlen:(fl.filter λf=>single j af f (cut j i e)).length<=60:=aV (aO _ _) xm;generalize (fl.filter λf=>single j af f (cut j i e))=fs at hp hbs hlen;have zU:tJ s j af ((i,e),none)=least (fs.map λf=> [pay s af f (cut j i e),f.key]):=hbs;refine ⟨_,(am (cE (ii (Bj (aT (pv 0) rfl) (λ_=>rfl)))
    (aA (aX (bJ ax)))
    bI)
   (am (st 1 kO.nd (dU (O6 rfl hr.units) rfl b.min hZ (ae (ir rfl kO.nd (cC (aT (pv 0) rfl)) (cT (own:= [("paid",3),("fare",4)]) (by kernel_rfl))
    (λ_ _ _ _ _=>(gT K (n:=2) rfl (cF (gn 3 kO.nd) (cF (gn 4 kO.nd) gX)))) (λ_ _ _ _ _=>eY)
    (λ_ _ _ _ _=>(fB (ae (pv 3) (ae (eF K (pv 4)) ax))))) ax)))
   (am (st 2 kO.nd (aT (pv 0) rfl))
   (aA (aX (bJ (ae (MX G hr (ae (bf cI (pv 1) aF (λ_ _=>rfl)) (ae (bJ (ae (fB (ae (aT (pv 2) rfl) (ae (aT (pv 2) rfl) (ae (bf cI (pv 1) aF (λ_ _=>rfl)) (ae (kj c.wq) ax))))) ax)) ax))) ax))))))),?_⟩
  refine mL ?_
  intros
  refine ⟨_,rfl,aL Wu ⟨!(ps.map V.ref).isEmpty, .inl ⟨_, .of hl,rfl⟩,?_⟩⟩;by_cases h0:fs= []
  ·have e0:ps= []:=bR (by rw [hp.1,h0];rfl);subst e0;refine ⟨bw _,λl rj=>q _ l (aD.new rj) rj ⟨[],ak,?_⟩⟩;unfold one;rw [zU,h0];exact bQ.nil
  ·obtain ⟨p0,rf,e0⟩: ∃p0 rf,ps=p0::rf:=by
    cases ps with
    |nil=>exact absurd (bR hp.1.symm) h0
    |cons a b=>exact ⟨a,b,rfl⟩
   have e1:(!(!(ps.map V.ref).isEmpty))=false:=by rw [e0];rfl
   rw [e1];refine ⟨_,rfl,aL Wu ⟨ls,rfl,⟨_, .of hl⟩,λD hD=>fG (K:=K) (a:=ls) (xs:=ps.map V.ref) (λn H'=>aD H H'/\pT H' D ((fs.take n).map λf=> [pay s af f (cut j i e),f.key])) ⟨aD.new hD,[],ak,bQ.nil⟩ (λn H' _ zz=> .of (zz.1 _ _ hl)) ?_ ?_⟩⟩
   ·rintro _ _ _ _ n x H1 hx ⟨sm,qs,hq,mS⟩;obtain ⟨p,RS,rfl⟩:=b0 hx;obtain ⟨f,hf,fa,tp,rV⟩:=hp.get' RS;refine ⟨p,_,rfl, .of (sm _ _ tp),rfl,_,_,rfl,_,_,rfl,rfl,rfl,?_⟩;refine ⟨_,rfl,_,rfl,aL (rV.mono sm).key ⟨(by show 2<=sizeLine;decide),λp1 Ez=>?_⟩⟩;refine ⟨qs.map V.ref,bm hq (aG hq Ez),?_,aD.put (sm.trans (aD.new Ez)) hD,?_⟩
    ·rw [ab,mS.1,ab,bc];exact cu (aV (dj _ _) hlen) (by decide)
    ·rw [di hf,aP];exact pT.put rfl hq mS Ez
   ·rintro H1 ⟨s1,qs,hq,mS⟩;rw [ab,hp.1,bo] at mS;refine ⟨D,qs,_,rfl, .of hq,mS.mono λ_ _ z=> .of z,?_,λk p r hk yh hle=>?_⟩
    ·rw [mS.1,ab];exact jT.mpr h0
    ·have tp:H1 p=some (.tup (r.map V.int)):=mS.2 k p r hk yh;rw [<-zU] at hle;obtain ⟨a,kk,rfl⟩:=gD hle;have epd:pd s j af ((i,e),none)=a:=by unfold pd;rw [hle];rfl
     have ek1:k1 s j af ((i,e),none)=kk:=by unfold k1;rw [hle];rfl
     refine ⟨_,rfl,aL (OZ.mono s1) ?_⟩;refine ⟨_,rfl,p,_,0,_,rfl,rfl, .of tp,at_of (j:=0) rfl rfl,_,rfl,aL (rl.mono s1).first ⟨_,rfl,aL (rl.mono s1).last ⟨_,rfl,p,_,1,_,rfl,rfl, .of tp,at_of (j:=1) rfl rfl,(by show 4<=sizeLine;decide),λtt P3=>⟨(by show 1<=sizeLine;decide),λlp B0=>?_⟩⟩⟩⟩;have nlp:H lp=none:=(s1.trans (aD.new P3)).free B0;have eE: [V.int (i:Int), .int ((e:Int)-1), .int kk, .int (-1)]=(nE ((i,e),kk,none)).map V.int:=rfl;have hP:Ak (upd (upd H1 tt (.tup [.int (i:Int), .int ((e:Int)-1), .int kk, .int (-1)])) lp (.lst [.ref tt])) lp [((i,e),kk,none)]:=by
      refine ⟨[tt],ak,rfl,λn a b h1 h2=>?_⟩;cases n with
      |zero=>
       cases h1;cases h2;rw [bK (λz=>by rw [z,ak] at B0;cases B0),ak,eE]
      |succ n=>simp at h1
     refine λx dx nx tD Rp=>⟨x,dx,lp,a,[((i,e),kk,none)],rfl,ak,?_,?_,λH3 b3 f1 f2 f3=>⟨rfl,?_⟩⟩
     ·obtain ⟨w1,w2,w3⟩:=hP;exact ⟨w1,dQ nx tD _ _ w2,w3.mono λ_ _ z=>dQ nx tD _ _ z⟩
     ·intro c hc;have hc:=aR.mp hc;subst hc;have:=rl.ok;exact ⟨this.1,aV this.2 h8⟩
     ·have s0:aD H (upd (upd H1 tt (.tup [.int (i:Int), .int ((e:Int)-1), .int kk, .int (-1)])) lp (.lst [.ref tt])):=(s1.trans (aD.new P3)).trans (aD.new B0);obtain ⟨z1,z2⟩:=Cp (K:=K) (s:=s) (j:=j) (af:=af) (u:=((i,e),none)) nx tD s0 nlp hP (by unfold jV;rw [ek1]) epd.symm (by rw [hle];rfl) b3 f1 f2 f3;refine ⟨(by show 1<=sizeLine;decide),λl rj=>q _ l (z1.trans (aD.new rj)) (z1.free rj) ⟨[x],ak,?_⟩⟩;unfold one;rw [hle];exact bQ.snoc bQ.nil (z2.mono (aD.new rj))
theorem ot:ba ["house","out_offers","home_offers","found","out","home","part_out","part_home"] ["house","out_offers","home_offers"] (aM (top 87)):=fi
theorem OJ (D:Dn K mg "return_choices" (top 87) ["house","out_offers","home_offers"]) (G1:Fn P w K mg base "least_return" 3 ["house","out_offers","home_offers"] (pB K)) (G:Cl P w K mg base "Choice" t.Choice 1 ["self","paid","parts"] (uR K t.Choice)):
  Fn P w K mg base "return_choices" 4 ["house","out_offers","home_offers"] (JN K):=by
 refine D.go ot λf db A outer s H vs Q E hr h=>?_
 ·intro Xc;obtain ⟨h,s,fl,j,af,i,e,i',e',oa,ob,B,B',rfl,hh,hj,ha,hb,h8,q⟩:=h;obtain ⟨ca,OZ,rl⟩:=ha.comp;obtain ⟨cb,fcb,R6⟩:=hb.comp;have zU:tJ s j af ((i,e),some (i',e'))=bestPair s j af (cut j i e) (cut j i' e'):=rfl;refine ⟨_,(am (st 3 ot.nd (pc G1 hr (ae (pv 0) (ae (pv 1) (ae (pv 2) ax)))))
   (am (cE (fT (jE (pv 3)))
    (aA (aX (bJ ax)))
    bI)
   (am (st 4 ot.nd (aT (pv 1) rfl))
   (am (st 5 ot.nd (aT (pv 2) rfl))
   (am (st 6 ot.nd (fB (ae (aT (pv 4) rfl) (ae (aT (pv 4) rfl) (ae (bf cI (pv 3) aF (λ_ _=>rfl)) (ae (aT (pv 5) rfl) ax))))))
   (am (st 7 ot.nd (fB (ae (aT (pv 5) rfl) (ae (aT (pv 5) rfl) (ae (bf cI (pv 3) aF (λ_ _=>rfl)) (ae (aT (pv 4) rfl) ax))))))
   (aA (aX (bJ (ae (MX G hr (ae (bf cI (pv 3) aF (λ_ _=>rfl)) (ae (bJ (ae (pv 6) (ae (pv 7) ax))) ax))) ax)))))))))),?_⟩
  refine Q3 ?_
  intros
  refine ⟨_,rfl,_,rfl,_,rfl,h,s,fl,j,af,oa,ob,i,e,i',e',B,B',rfl,hh,hj,ha,hb,λH1 s1 hn=>?_,λH1 p a k m s1 Vx tp=>?_⟩
  ·refine ⟨_,rfl,_,rfl,bw _,λl rj=>q _ l (s1.trans (aD.new rj)) (s1.free rj) ⟨[],ak,?_⟩⟩;unfold one;rw [zU,hn];exact bQ.nil
  ·have epd:pd s j af ((i,e),some (i',e'))=a:=by unfold pd;rw [zU,Vx];rfl
   have ek1:k1 s j af ((i,e),some (i',e'))=k:=by unfold k1;rw [zU,Vx];rfl
   have ek2:k2 s j af ((i,e),some (i',e'))=m:=by unfold k2;rw [zU,Vx];rfl
   refine ⟨_,rfl,_,rfl,?_⟩;refine ⟨_,rfl,aL (OZ.mono s1) ⟨_,rfl,aL (fcb.mono s1) ?_⟩⟩;refine ⟨_,rfl,aL (rl.mono s1).first ⟨_,rfl,aL (rl.mono s1).last ⟨_,rfl,p,_,1,_,rfl,rfl, .of tp,at_of (j:=1) rfl rfl,_,rfl,aL (R6.mono s1).first ⟨(by show 4<=sizeLine;decide),λt1 n1=>?_⟩⟩⟩⟩;have s2:aD H1 (upd H1 t1 (.tup [.int (i:Int), .int ((e:Int)-1), .int k, .int (i':Int)])):=aD.new n1;have ig:=s1.trans s2;refine ⟨_,rfl,aL (R6.mono ig).first ⟨_,rfl,aL (R6.mono ig).last ⟨_,rfl,p,_,2,_,rfl,rfl, .of (s2 _ _ tp),at_of (j:=2) rfl rfl,_,rfl,aL (rl.mono ig).first ⟨(by show 4<=sizeLine;decide),λt2 n2=>?_⟩⟩⟩⟩;generalize hH2:upd H1 t1 (.tup [.int (i:Int), .int ((e:Int)-1), .int k, .int (i':Int)])=H2 at s2 ig n2;have w1:H2 t1=some (.tup [.int (i:Int), .int ((e:Int)-1), .int k, .int (i':Int)]):=by rw [<-hH2];exact ak
   have s3:aD H2 (upd H2 t2 (.tup [.int (i':Int), .int ((e':Int)-1), .int m, .int (i:Int)])):=aD.new n2;have w2:upd H2 t2 (.tup [.int (i':Int), .int ((e':Int)-1), .int m, .int (i:Int)]) t2=some (.tup [.int (i':Int), .int ((e':Int)-1), .int m, .int (i:Int)]):=ak;generalize upd H2 t2 (.tup [.int (i':Int), .int ((e':Int)-1), .int m, .int (i:Int)])=H3 at s3 w2;have w1:=s3 _ _ w1;have wI:=ig.trans s3;refine ⟨_,rfl,p,_,0,_,rfl,rfl, .of (s3 _ _ (s2 _ _ tp)),at_of (j:=0) rfl rfl,_,rfl,_,rfl,(by show 2<=sizeLine;decide),λlp B0=>?_⟩;have hP:Ak (upd H3 lp (.lst [.ref t1, .ref t2])) lp [((i,e),k,some (i',e')),((i',e'),m,some (i,e))]:=by
    refine ⟨[t1,t2],ak,bQ.snoc (as:= [t1]) (bs:= [((i,e),k,some (i',e'))]) (bQ.snoc bQ.nil ?_) ?_⟩
    ·exact bm w1 (aG w1 B0)
    ·exact bm w2 (aG w2 B0)
   refine λx dx nx tD Rp=>⟨x,dx,lp,a,[((i,e),k,some (i',e')),((i',e'),m,some (i,e))],rfl,ak,?_,?_,λH4 b4 f1 f2 f3=>⟨rfl,?_⟩⟩
   ·obtain ⟨v1,v2,v3⟩:=hP;exact ⟨v1,dQ nx tD _ _ v2,v3.mono λ_ _ z=>dQ nx tD _ _ z⟩
   ·intro c hc;have o1:=rl.ok;have o2:=R6.ok;rcases aB.mp hc with rfl|hc
    ·exact ⟨o1.1,aV o1.2 h8⟩
    ·have hc:=aR.mp hc;subst hc;exact ⟨o2.1,aV o2.2 h8⟩
   ·obtain ⟨z1,z2⟩:=Cp (K:=K) (s:=s) (j:=j) (af:=af) (u:=((i,e),some (i',e'))) nx tD (wI.trans (aD.new B0)) (wI.free B0) hP (by unfold jV;rw [ek1,ek2]) epd.symm (by rw [zU,Vx];rfl) b4 f1 f2 f3;refine ⟨(by show 1<=sizeLine;decide),λl rj=>q _ l (z1.trans (aD.new rj)) (z1.free rj) ⟨[x],ak,?_⟩⟩;unfold one;rw [zU,Vx];exact bQ.snoc bQ.nil (z2.mono (aD.new rj))
end
end Lf
namespace Lf
def cZ (s:ag) (j:ai) (af:Int) (L:List Un) (i:Nat):List Un:=L.filter λu=>decide (u.1.1=i)&&(tJ s j af u).isSome
theorem IN (s:ag) (j:ai) (af:Int) (L:List Un) (u:Un) (i:Nat):cZ s j af (L++ [u]) i=cZ s j af L i++if u.1.1=i then one s j af u else []:=by
 unfold cZ one;rw [cD]
 congr 1
 rw [br];by_cases h:u.1.1=i
 ·rw [if_pos h,decide_eq_true h];rfl
 ·rw [if_neg h,decide_eq_false h];rfl
theorem Oe (s:ag) (j:ai) (af:Int) (u:Un):(one s j af u).length<=1:=by unfold one;split<;>simp
structure fq (K:aa) (H0 H:Hp) (s:ag) (j:ai) (af:Int) (l:Addr) (L:List Un) (ls:List Addr):Prop where
 lst:H l=some (.lst (ls.map V.ref))
 len:ls.length=j.segs.length
 nd:ls.Nodup
 nl:l∉ls
 n0:H0 l=none
 ns: ∀a∈ls,H0 a=none
 at_: ∀i a,ls[i]?=some a->me K H (λb=>b=l∨b∈ls) s j af a (cZ s j af L i)
section
variable {H0 H H1:Hp} {s:ag} {j:ai} {af:Int} {l:Addr} {L:List Un} {ls:List Addr}
theorem fq.mono (c:fq K H0 H s j af l L ls) (e:aD H H1):fq K H0 H1 s j af l L ls:=
 ⟨e _ _ c.lst,c.len,c.nd,c.nl,c.n0,c.ns,λi a h=>(c.at_ i a h).mono e⟩
theorem fq.sub (c:fq K H0 H s j af l L ls) {H00:Hp} (e:aD H00 H0):fq K H00 H s j af l L ls:=
 ⟨c.lst,c.len,c.nd,c.nl,e.free c.n0,λa h=>e.free (c.ns a h),c.at_⟩
theorem Gk {u:Un} {a b:Addr} (c:fq K H0 H s j af l L ls) (hL:L.length<10000) (s1:aD H H1) (ha:ls[u.1.1]?=some a) (hb:me K H1 (λb=> ∃o,H b=some o) s j af b (one s j af u)) (s0:aD H0 H1):
  ∃xs zs,H1 a=some (.lst xs)/\H1 b=some (.lst zs)/\xs.length+zs.length<=sizeLine/\aD H0 (upd H1 a (.lst (xs++zs)))/\fq K H0 (upd H1 a (.lst (xs++zs))) s j af l (L++ [u]) ls:=by
 have hm:a∈ls:=aH ha;obtain ⟨lH,h1,h2⟩:=(c.mono s1).at_ _ _ ha;obtain ⟨cbs,h3,h4⟩:=hb;have nal:l≠a:=λz=>c.nl (by rw [z];exact hm);refine ⟨_,_,h1,h3,?_,aD.put s0 (c.ns a hm),?_⟩
 ·rw [ab,ab,h2.1,h4.1];have g1:(cZ s j af L u.1.1).length<=L.length:=aO _ _;have g2:=Oe s j af u;have:sizeLine=16777216:=af5;omega
 ·have up:dB a H1 (upd H1 a (.lst (lH.map V.ref++cbs.map V.ref))):=dB.upd;refine ⟨bm (s1 _ _ c.lst) nal,c.len,c.nd,c.nl,c.n0,c.ns,λi a' hi=>?_⟩;rw [IN];by_cases e:a'=a
  ·subst e;have ei:i=u.1.1:=by
    obtain ⟨q1,q2⟩:=aJ.mp hi;exact (sY q1 c.nd).mp (hi.trans ha.symm)
   subst ei;rw [if_pos rfl];refine ⟨lH++cbs,by rw [ak,aP],?_⟩;refine (h2.mono λ_ _ z=>z.but (.inr hm) h1 up).append (h4.mono λ_ _ z=>(z.weak λb hb=>?_).but (.inr hm) h1 up);rcases hb with rfl|hb
   ·exact ⟨_,c.lst⟩
   ·obtain ⟨k,hk⟩:=dE.mp hb;obtain ⟨_,z,_⟩:=c.at_ k _ hk;exact ⟨_,z⟩
  ·have ei: ¬u.1.1=i:=λz=>e (by subst z;rw [ha] at hi;exact (bx hi).symm);rw [if_neg ei,dc];obtain ⟨TK,h5,h6⟩:=(c.mono s1).at_ _ _ hi;exact ⟨TK,bm h5 e,h6.mono λ_ _ z=>z.but (.inr hm) h1 up⟩
end
def Aw (n:Nat) (m:Nat):List Un:=((oo n n).take m).map λc=>(c,none)
def rK (c:Nat×Nat) (ds:List (Nat×Nat)):List Un:=(ds.filter λd=>decide (c.2<=d.1)).map λd=>(c,some d)
def FD (n:Nat) (m:Nat):List Un:=((oo n n).take m).flatMap λc=>rK c (oo n n)
theorem JJ {n:Nat} (h8:n<=8):(oo n n).length<=64:=aV (y2 h8 (ay _)) (by omega)
theorem ud {n:Nat} (h8:n<=8) (m:Nat):(Aw n m).length<=64:=by
 unfold Aw;rw [ab,bc];exact aV (dj _ _) (JJ h8)
theorem Bk (c:Nat×Nat) (ds:List (Nat×Nat)):(rK c ds).length<=ds.length:=by
 unfold rK;rw [ab];exact aO _ _
theorem gN {α β:Type} {f:α->List β} {k:Nat}: ∀{l:List α},(∀a∈l,(f a).length<=k)->(l.flatMap f).length<=l.length*k
 | [],_=>bw _
 |a::l,h=>by
  rw [bB,aK,aS,tS];have:=h a aN;have:=gN (l:=l) λb hb=>h b (aE _ hb);omega
theorem FC {n:Nat} (h8:n<=8) (m:Nat):(FD n m).length<=64*64:=by
 unfold FD;have h:=JJ h8;refine aV (gN (k:=64) λc _=>aV (Bk c _) h) (Jd _ ?_);rw [bc];exact aV (dj _ _) h
theorem zw {n:Nat} {u:Un}:u∈Aw n (oo n n).length↔IV u/\tm u<=n/\u.2=none:=by
 unfold Aw;rw [bo];constructor
 ·intro h;obtain ⟨⟨a,e⟩,hc,rfl⟩:=aj.mp h;have:=oG.mp hc;exact ⟨⟨this.1,λq z=>by cases z⟩,this.2,rfl⟩
 ·rintro ⟨h1,h2,h3⟩;obtain ⟨⟨a,e⟩,o⟩:=u;have h3:o=none:=h3;subst h3;exact aj.mpr ⟨(a,e),oG.mpr ⟨h1.1,h2⟩,rfl⟩
theorem FT {n:Nat} {u:Un}:u∈FD n (oo n n).length↔IV u/\tm u<=n/\u.2≠none:=by
 unfold FD rK;rw [bo];constructor
 ·intro h;obtain ⟨⟨a,e⟩,hc,h⟩:=aW.mp h;obtain ⟨⟨a',e'⟩,hd,rfl⟩:=aj.mp h;obtain ⟨hd,hd2⟩:=au.mp hd;have hd2:e<=a':=by simpa using hd2
  have h1:=oG.mp hc;have h2:=oG.mp hd;exact ⟨⟨h1.1,λq z=>by cases z;exact ⟨hd2,h2.1⟩⟩,h2.2,λz=>nomatch z⟩
 ·rintro ⟨h1,h2,h3⟩;obtain ⟨⟨a,e⟩,o⟩:=u;cases o with
  |none=>exact absurd rfl h3
  |some d=>
   obtain ⟨a',e'⟩:=d;have h4:e<=a'/\a'<e':=h1.2 _ rfl;have h5:a<e:=h1.1;have h6:e'<=n:=h2;exact aW.mpr ⟨(a,e),oG.mpr ⟨h5,by omega⟩,aj.mpr ⟨(a',e'),au.mpr ⟨oG.mpr ⟨h4.2,h6⟩,by simpa using h4.1⟩,rfl⟩⟩
theorem gk {α β:Type} {f:α->β}: ∀{l:List α},(∀a b,f a=f b->a=b)->l.Nodup->(l.map f).Nodup
 | [],_,_=>eI
 |a::l,h,nd=>by
  obtain ⟨n1,n2⟩:=bj.mp nd;rw [bb,bj];refine ⟨λz=>?_,gk h n2⟩;obtain ⟨b,hb,e⟩:=aj.mp z;exact n1 (by rw [<-h b a e];exact hb)
theorem pK {α β γ:Type} {f:α->List β} {g:β->γ} {k:α->γ}: ∀{l:List α},(∀a, ∀b∈f a,g b=k a)->(∀a b,k a=k b->a=b)->(∀a,(f a).Nodup)->l.Nodup->(l.flatMap f).Nodup
 | [],_,_,_,_=>eI
 |a::l,h,inj,hf,nd=>by
  obtain ⟨n1,n2⟩:=bj.mp nd;rw [bB,gr];refine ⟨hf a,pK h inj hf n2,λx hx y hy e=>?_⟩;subst e;obtain ⟨b,hb,hy⟩:=aW.mp hy;exact n1 (by rw [inj a b ((h a x hx).symm.trans (h b x hy))];exact hb)
theorem rC (n m:Nat):(oo n m).Nodup:=by
 unfold oo jA;refine pK (g:=λc:Nat×Nat=>c.1) (k:=λa=>a) (λa b hb=>?_) (λ_ _ e=>e) (λa=>gk (λx y e=>?_) ur) ur
 ·obtain ⟨k,_,rfl⟩:=aj.mp hb;rfl
 ·have:=(gq e).2;omega
theorem xL (n:Nat):(Aw n (oo n n).length).Nodup:=by
 unfold Aw;rw [bo];exact gk (λa b e=>(gq e).1) (rC n n)
theorem Hz (n:Nat):(FD n (oo n n).length).Nodup:=by
 unfold FD rK;rw [bo];refine pK (g:=λu:Un=>u.1) (k:=λa=>a) (λa b hb=>?_) (λ_ _ e=>e) (λa=>gk (λx y e=>?_) ((rC n n).filter _)) (rC n n)
 ·obtain ⟨k,_,rfl⟩:=aj.mp hb;rfl
 ·exact bx (gq e).2
def ll (n:Nat):List Un:=Aw n (oo n n).length++FD n (oo n n).length
theorem Gm (s:ag) (j:ai) (af:Int):jQ s j af true (cZ s j af (Aw j.segs.length (oo j.segs.length j.segs.length).length)) where
 mem i u:=by
  unfold cZ;rw [au,zw];simp only [aU,decide_eq_true_eq];constructor
  ·rintro ⟨⟨a,b,c⟩,d,e⟩;exact ⟨d,a,b,e,λ_=>c⟩
  ·rintro ⟨d,a,b,e,c⟩;exact ⟨⟨a,b,c trivial⟩,d,e⟩
 nd i:=(xL _).filter _
theorem k8 (s:ag) (j:ai) (af:Int):jQ s j af false (cZ s j af (ll j.segs.length)) where
 mem i u:=by
  unfold cZ ll;rw [au,bF,zw,FT];simp only [aU,decide_eq_true_eq];constructor
  ·rintro ⟨⟨a,b,c⟩|⟨a,b,c⟩,d,e⟩<;>exact ⟨d,a,b,e,λz=>by cases z⟩
  ·rintro ⟨d,a,b,e,c⟩;refine ⟨?_,d,e⟩;by_cases z:u.2=none
   ·exact .inl ⟨a,b,z⟩
   ·exact .inr ⟨a,b,z⟩
 nd i:=by
  unfold cZ ll;refine W7 _ (gr.mpr ⟨xL _,Hz _,λx hx y hy e=>?_⟩);subst e;exact (FT.mp hy).2.2 (zw.mp hx).2.2
end Lf
namespace Lf
def iI (K:aa) (H0 H:Hp) (s:ag) (j:ai) (af:Int) (l:Addr) (L:List Un):Prop:= ∃ls,fq K H0 H s j af l L ls
inductive CS (K:aa) (vs:List V) (H:Hp) (Q:VK):Prop
 |mk (h:HA) (s:ag) (fl:List aq) (j:ai) (af:Int) (lo:Addr) (B:Addr->Prop):vs= [.ref h.a, .ref lo]->aZ K H h s fl->s.journey=some j->yz K H B s fl j af lo->(∀(H':Hp) (l:Addr),aD H H'->iI K H H' s j af l (Aw j.segs.length (oo j.segs.length j.segs.length).length)->Q (.ref l) H')->CS K vs H Q
def y8 (K:aa):Sp:=λvs H Q _=>CS K vs H Q
section
theorem qt:ba ["house","offered","choices","offers","segment"] ["house","offered"] (aM (top 88)):=fi
theorem LP (D:Dn K mg "find_singles" (top 88) ["house","offered"]) (G:Fn P w K mg base "single_choices" 3 ["offers"] (Fl K)):
  Fn P w K mg base "find_singles" 4 ["house","offered"] (y8 K):=by
 refine D.go qt λf db A outer s H vs Q E hr h=>?_
 ·intro Xc;obtain ⟨h,s,fl,j,af,lo,B,rfl,hh,hj,⟨os,ho,BX⟩,q⟩:=h;obtain ⟨ja,fj,HW⟩:=hh.il hj;obtain ⟨BQ,l,as,Tr,Gb,hl,hs,_⟩:=HW;have h8:j.segs.length<=8:=(hh.ok.jo j hj).ge;have xm:fl.length<=60:=by rw [hh.perm.length_eq];exact hh.ok.fl
  refine ⟨_,(am (qy (i:=2) rfl qt.nd rfl rfl (tY rfl rfl rfl rfl) (cC (aT (aT (pv 0) rfl) rfl)) (cT (own:= [("segment",4)]) (by kernel_rfl))
    (λ_ _ _ _ _=>(gn 4 qt.nd)) (λ_ _ _ _ _=>eY)
    (λ_ _ _ _ _=>(bJ ax)))
   (am (dk PassesOwn.never rfl (cC (pv 1)) (gn 3 qt.nd)
    (aA (eD (EL (bf aY (pv 2) (aT (aT (pv 3) rfl) rfl) (λ_ _=>rfl)) (pc G hr (ae (pv 3) ax))))))
   (aA (aX (pv 2))))),?_⟩
  refine qo ?_
  intros
  refine ⟨_,rfl,aL fj (aL Gb ⟨l,rfl,⟨_, .of hl⟩,λD hD=>fG (K:=K) (a:=l) (xs:=as.map V.ref) (λn H'=>aD H H'/\∃ls:List Addr,H' D=some (.lst (ls.map V.ref))/\ls.length=n/\ls.Nodup/\D∉ls/\∀a∈ls,H a=none/\H' a=some (.lst [])) ⟨aD.new hD,[],ak,rfl,eI,gJ,λa z=>nomatch z⟩ (λn H' _ zz=> .of (zz.1 _ _ hl)) ?_ ?_⟩)⟩
  ·rintro _ _ _ _ n x H1 hx ⟨s1,ls,XN,hlen,nd,nD,VR⟩;have hn:n<8:=by
    have:=(aJ.mp hx).1;rw [ab,hs.1] at this;omega
   refine ⟨rfl,bw _,λa na=>?_⟩;have Zj:D≠a:=aG XN na;refine ⟨ls.map V.ref,bm XN Zj,?_,aD.put (s1.trans (aD.new na)) hD,ls++ [a],?_,?_,?_,?_,?_⟩
   ·rw [ab,hlen];exact n8 hn (by decide)
   ·rw [ak,dP]
   ·rw [aK,hlen];rfl
   ·rw [gr];refine ⟨nd,bj.mpr ⟨gJ,eI⟩,λx hx y hy e=>?_⟩;have:=aR.mp hy;subst e this;rw [(VR _ hx).2] at na;cases na
   ·intro z;rcases bF.mp z with z|z
    ·exact nD z
    ·exact Zj (aR.mp z)
   ·intro b hb;rcases bF.mp hb with z|z
    ·have:=VR b z;exact ⟨this.1,vH this.2 na λe=>nD (by rw [<-e];exact z)⟩
    ·have:=aR.mp z;subst this;exact ⟨s1.free na,bm ak Zj.symm⟩
  ·rintro H1 ⟨s1,ls,XN,hlen,nd,nD,VR⟩;rw [ab,hs.1] at hlen;have C0:fq K H H1 s j af D (Aw j.segs.length 0) ls:=⟨XN,hlen,nd,nD,hD,λa z=>(VR a z).1,λi a z=>⟨[],(VR a (aH z)).2,bQ.nil⟩⟩
   refine ⟨_,rfl,lo,rfl,⟨_, .of (s1 _ _ ho)⟩,eQ (K:=K) (a:=lo) (xs:=os.map V.ref) (λn σ H'=>(∃v3 v4,σ= [some (.ref h.a),some (.ref lo),some (.ref D),v3,v4])/\aD H H'/\fq K H H' s j af D (Aw j.segs.length n) ls) ⟨⟨_,_,rfl⟩,s1,C0⟩ (λn σ H' _ zz=> .of (zz.2.1 _ _ ho)) ?_ ?_⟩
   ·rintro _ _ _ n x σ H2 hx ⟨⟨v3,v4,rfl⟩,s2,C2⟩;obtain ⟨o,ZV,rfl⟩:=b0 hx;obtain ⟨c,hc,U1⟩:=BX.get' ZV;obtain ⟨ca,OZ,cat⟩:=U1.comp;have hi:c.1<ls.length:=by
     have:=cat.ok;rw [hlen];omega
    obtain ⟨a,ha⟩: ∃a,ls[c.1]?=some a:=⟨_,ao hi⟩
    obtain ⟨lH,rl,_⟩:=C2.at_ _ _ ha;refine ⟨_,rfl,_,rfl,aL (OZ.mono s2) (aL (cat.mono s2).first ⟨D,_,(c.1:Int),_,rfl,rfl, .of C2.lst,at_of (j:=c.1) rfl (cg ha), .inl ⟨rfl,_, .of rl⟩,?_⟩)⟩;refine ⟨_,rfl,s,fl,j,af,c.1,c.2,o,B,rfl,U1.mono s2,hh.perm,xm,h8,λH3 b s3 nb hb=>?_⟩;obtain ⟨xs,zs,e1,e2,e3,e4,e5⟩:=Gk (u:=(c,none)) C2 (cu (ud h8 n) (by decide)) s3 ha hb (s2.trans s3);refine ⟨a,b,xs,zs,rfl,rfl,e1,e2,e3,⟨_,_,rfl⟩,e4,?_⟩;have eu:Aw j.segs.length (n+1)=Aw j.segs.length n++ [(c,none)]:=by unfold Aw;rw [di hc,aP];rfl
    rw [eu];exact e5
   ·rintro σ H2 ⟨⟨v3,v4,rfl⟩,s2,C2⟩;refine ⟨_,rfl,q H2 D s2 ⟨ls,?_⟩⟩;rw [ab,BX.1] at C2;exact C2
end
end Lf
namespace Lf
inductive CT (K:aa) (vs:List V) (H:Hp) (Q:VK):Prop
 |mk (h:HA) (s:ag) (fl:List aq) (j:ai) (af:Int):vs= [.ref h.a, .int af]->aZ K H h s fl->s.journey=some j->(0<=af/\af<=4)->(∀(H':Hp) (l:Addr),aD H H'->iI K H H' s j af l (ll j.segs.length)->Q (.ref l) H')->CT K vs H Q
def ua (K:aa):Sp:=λvs H Q _=>CT K vs H Q
theorem xR (c:Nat×Nat) (ds:List (Nat×Nat)) (d:Nat×Nat):rK c (ds++ [d])=if c.2<=d.1 then rK c ds++ [(c,some d)] else rK c ds:=by
 unfold rK;rw [cD,aP,br];by_cases h:c.2<=d.1
 ·rw [if_pos h,decide_eq_true h];rfl
 ·rw [if_neg h,decide_eq_false h];simp
def PB:Sp:=λvs H Q _=> ∃m:Nat,vs= [.int m]/\m≠0/\Q (.int (low m)) H
def GO (K:aa) (Hc H:Hp) (s:ag) (j:ai) (af:Int) (l:Addr) (us:List Un):Prop:= ∃lH:List Addr,H l=some (.lst (lH.map V.ref))/\bQ (eh K Hc (λ_=>False) s j af) lH us
inductive yA (K:aa) (vs:List V) (H:Hp) (Q:VK):Prop
 |mk (H0 Hc:Hp) (s:ag) (j:ai) (af:Int) (l:Addr) (L:List Un) (m:Nat):vs= [.ref l, .int m]->iI K H0 Hc s j af l L->aD Hc H->L.length<10000->m≠0->m<2^j.segs.length->(∀(H':Hp) (r:Addr),aD H H'->H r=none->GO K Hc H' s j af r (ji (cZ s j af L) d4 m)->Q (.ref r) H')->yA K vs H Q
def qm (K:aa):Sp:=λvs H Q _=>yA K vs H Q
section
theorem kR:ba ["house","kind","offered","choices","offers","component","later"] ["house","kind"] (aM (top 89)):=fi
theorem LQ (D:Dn K mg "find_choices" (top 89) ["house","kind"]) (G1:Fn P w K mg base "find_offers" 7 ["house","kind"] (lO K)) (G2:Fn P w K mg base "find_singles" 4 ["house","offered"] (y8 K)) (G3:Fn P w K mg base "return_choices" 4 ["house","out_offers","home_offers"] (JN K)):
  Fn P w K mg base "find_choices" 8 ["house","kind"] (ua K):=by
 refine D.go kR λf db A outer s H vs Q E hr h=>?_
 ·intro Xc;obtain ⟨h,s,fl,j,af,rfl,hh,hj,hk,q⟩:=h;have h8:j.segs.length<=8:=(hh.ok.jo j hj).ge;refine ⟨_,(am (st 2 kR.nd (pc G1 hr (ae (pv 0) (ae (pv 1) ax))))
   (am (st 3 kR.nd (pc G2 hr (ae (pv 0) (ae (pv 2) ax))))
   (am (dk PassesOwn.never rfl (cC (pv 2)) (gn 4 kR.nd)
    (am (st 5 kR.nd (aT (pv 4) rfl))
   (aA (dk PassesOwn.never rfl (cC (pv 2)) (gn 6 kR.nd)
    (aA (cE (cB BA (aT (aT (pv 6) rfl) rfl) (aT (pv 5) rfl) (bS _))
    (aA (eD (EL (bf aY (pv 3) (aT (pv 5) rfl) (λ_ _=>rfl)) (pc G3 hr (ae (pv 0) (ae (pv 4) (ae (pv 6) ax)))))))
    bI))))))
   (aA (aX (pv 3)))))),?_⟩
  refine mL ?_
  intros
  refine ⟨_,rfl,_,rfl,h,s,fl,j,af,rfl,hh,hj,hk,λH1 lo s1 nlo Xu=>?_⟩;refine ⟨_,rfl,_,rfl,h,s,fl,j,af,lo,_,rfl,hh.mono s1,hj,Xu,λH2 D s2 hC=>?_⟩;obtain ⟨os,ho,BX⟩:=Xu;obtain ⟨ls,C⟩:=hC;have ig:=s1.trans s2;refine ⟨_,rfl,lo,rfl,⟨_, .of (s2 _ _ ho)⟩,eQ (K:=K) (a:=lo) (xs:=os.map V.ref) (λm σ H'=>(∃v4 v5 v6,σ= [some (.ref h.a),some (.int af),some (.ref lo),some (.ref D),v4,v5,v6])/\aD H1 H'/\fq K H1 H' s j af D (Aw j.segs.length (oo j.segs.length j.segs.length).length++FD j.segs.length m) ls) ⟨⟨_,_,_,rfl⟩,s2,by unfold FD;simpa using C⟩ (λm σ H' _ zz=> .of (zz.2.1 _ _ ho)) ?_ ?_⟩
  ·rintro _ _ _ m x σ H3 hx ⟨⟨v4,v5,v6,rfl⟩,s3,C3⟩;obtain ⟨o,ZV,rfl⟩:=b0 hx;obtain ⟨c,hc,U1⟩:=BX.get' ZV;obtain ⟨ca,OZ,cat⟩:=U1.comp;refine ⟨_,rfl,aL (OZ.mono s3) ?_⟩;refine ⟨_,rfl,lo,rfl,⟨_, .of (s3 _ _ ho)⟩,eQ (K:=K) (a:=lo) (xs:=os.map V.ref) (λk σ H'=>(∃v6,σ= [some (.ref h.a),some (.int af),some (.ref lo),some (.ref D),some (.ref o),some (.ref ca),v6])/\aD H1 H'/\fq K H1 H' s j af D ((Aw j.segs.length (oo j.segs.length j.segs.length).length++FD j.segs.length m)++rK c ((oo j.segs.length j.segs.length).take k)) ls) ⟨⟨_,rfl⟩,s3,by simpa [rK] using C3⟩ (λm σ H' _ zz=> .of (zz.2.1 _ _ ho)) ?_ ?_⟩
   ·rintro _ _ _ k x σ H4 hx ⟨⟨v6,rfl⟩,s4,C4⟩;obtain ⟨o',ZU,rfl⟩:=b0 hx;obtain ⟨d,hd,U0⟩:=BX.get' ZU;obtain ⟨ca',aay,SK⟩:=U0.comp;refine ⟨_,rfl,aL (aay.mono s4) (aL (SK.mono s4).first ⟨_,rfl,aL (cat.mono s4).last ⟨_,_,rfl,rfl,_,rfl,?_⟩⟩)⟩;by_cases Ii:c.2<=d.1
    ·refine dT (by omega) ?_;have hi:c.1<ls.length:=by
      have:=cat.ok;rw [C4.len];omega
     obtain ⟨a,ha⟩: ∃a,ls[c.1]?=some a:=⟨_,ao hi⟩
     obtain ⟨lH,rl,_⟩:=C4.at_ _ _ ha;refine ⟨_,rfl,_,rfl,aL (cat.mono s4).first ⟨D,_,(c.1:Int),_,rfl,rfl, .of C4.lst,at_of (j:=c.1) rfl (cg ha), .inl ⟨rfl,_, .of rl⟩,?_⟩⟩;refine ⟨_,rfl,_,rfl,_,rfl,h,s,fl,j,af,c.1,c.2,d.1,d.2,o,o',_,_,rfl,hh.mono (s1.trans s4),hj,U1.mono s4,U0.mono s4,h8,λH5 b s5 nb hb=>?_⟩;have hlen:((Aw j.segs.length (oo j.segs.length j.segs.length).length++FD j.segs.length m)++rK c ((oo j.segs.length j.segs.length).take k)).length<10000:=by
      rw [aK,aK];have g1:=ud h8 (oo j.segs.length j.segs.length).length;have g2:=FC h8 m;have g3:=Bk c ((oo j.segs.length j.segs.length).take k);have g4:=JJ h8;rw [bc] at g3;omega
     obtain ⟨xs,zs,e1,e2,e3,e4,e5⟩:=Gk (u:=(c,some d)) C4 hlen s5 ha hb (s4.trans s5);refine ⟨a,b,xs,zs,rfl,rfl,e1,e2,e3,⟨_,rfl⟩,e4,?_⟩;rw [di hd,xR,if_pos Ii, <-cp];exact e5
    ·refine dF (by omega) ?_;refine ⟨⟨_,rfl⟩,s4,?_⟩;rw [di hd,xR,if_neg Ii];exact C4
   ·rintro σ H4 ⟨⟨v6,rfl⟩,s4,C4⟩;refine ⟨⟨_,_,_,rfl⟩,s4,?_⟩;rw [ab,BX.1,bo] at C4;have eu:FD j.segs.length (m+1)=FD j.segs.length m++rK c (oo j.segs.length j.segs.length):=by unfold FD;rw [di hc,cc];simp
    rw [eu, <-cp];exact C4
  ·rintro σ H3 ⟨⟨v4,v5,v6,rfl⟩,s3,C3⟩;rw [ab,BX.1] at C3;exact ⟨_,rfl,q H3 D (s1.trans s3) ⟨ls,C3.sub s1⟩⟩
theorem DW:ba ["mask","digit"] ["mask"] (aM (top 90)):=fi
theorem Sj (D:Dn K mg "lowest_digit" (top 90) ["mask"]):Fn P w K mg base "lowest_digit" 1 ["mask"] PB:=by
 refine D.fn λf fd F=>F.go DW (λvs H Q E h=>?_) (λdb A outer s H vs Q E hr h=>?_)
 ·obtain ⟨_,rfl,_⟩:=h;rfl
 ·intro Xc;obtain ⟨m,rfl,hm,q⟩:=h;have OA:=ni hm;refine ⟨_,(am (st 1 DW.nd aF)
   (am (vc PassesOwn.never (cB fV (bX zt (bX Kz (pv 0) (pv 1)) aF) aF (bS _))
    (aA (st 1 DW.nd (bX fD (pv 1) aF))))
   (aA (aX (pv 1))))),?_⟩
  refine qo ?_
  intros
  refine ⟨λk σ H'=> ∃d:Nat,k+d=low m/\σ= [some (.int m),some (.int d)]/\H'=H,⟨low m,0,by omega,rfl,rfl⟩,?_⟩;rintro k σ H' ⟨d,hd,rfl,rfl⟩;refine ⟨_,rfl,_,rfl,_,_,rfl,rfl,by omega,_,_,rfl,rfl,rfl,_,rfl,?_⟩;have e1:Builtin.bitAnd ((m:Int)/2^((d:Int)).toNat) 1=if m.testBit d=true then 1 else 0:=by
   rw [bitAnd_m1];have e2:((d:Int)).toNat=d:=by omega
   rw [e2];have e3:(m:Int)/2^d=((m/2^d:Nat):Int):=by simp
   rw [e3,Nat.testBit_eq_decide_div_mod_eq];by_cases h:m/2^d%2=1
   ·rw [decide_eq_true h,if_pos rfl];omega
   ·rw [decide_eq_false h,if_neg aI];omega
  by_cases hk:k=0
  ·have e4:d=low m:=by omega
   refine Nd (by rw [e1,e4,OA.1];decide) ?_;rw [e4];exact ⟨_,rfl,q⟩
  ·refine eqT (by rw [e1,OA.2 d (by omega)];rfl) ?_;exact ⟨λeM SV=>eM= [some (.int m),some (.int ((d:Int)+1))]/\SV=H',λeM SV zz=>⟨k-1,by omega,d+1,by omega,by rw [zz.1];simp,zz.2⟩,_,rfl,_,_,rfl,rfl,rfl,rfl⟩
theorem rF:ba ["choices","mask","choice"] ["choices","mask"] (aM (top 91)):=fi
theorem Im (D:Dn K mg "choices_within" (top 91) ["choices","mask"]) (G:Fn P w K mg base "lowest_digit" 1 ["mask"] PB):Fn P w K mg base "choices_within" 2 ["choices","mask"] (qm K):=by
 refine D.go rF λf db A outer s H vs Q E hr h=>?_
 ·intro Xc;obtain ⟨H0,Hc,s,j,af,l,L,m,rfl,⟨ls,C⟩,Nb,hL,hm,RT,q⟩:=h;have rj:low m<ls.length:=by
   rw [C.len];have h1:=(ni hm).1;have h2:=AC h1;exact (Nat.pow_lt_pow_iff_right (by decide)).mp (cu h2 RT)
  obtain ⟨a,ha⟩: ∃a,ls[low m]?=some a:=⟨_,ao rj⟩
  obtain ⟨lH,rl,nv⟩:=C.at_ _ _ ha;have rl:=Nb _ _ rl;refine ⟨_,(aA (aX (ir rfl rF.nd (cC (bf aY (pv 0) (pc G hr (ae (pv 1) ax)) (λ_ _=>rfl))) (cT (own:= [("choice",2)]) (by kernel_rfl))
    (λ_ _ _ _ _=>(gn 2 rF.nd)) (λ_ _ _ _ _=>(ox (cB fV (bX zt (eF K (pv 2)) (pv 1)) (eF K (pv 2)) (bS _))))
    (λ_ _ _ _ _=>(pv 2))))),?_⟩
  refine ⟨_,rfl,_,rfl,m,rfl,hm,l,_,(low m:Nat),_,rfl,rfl, .of (Nb _ _ C.lst),at_of (j:=low m) rfl (cg ha),a,rfl,⟨_, .of rl⟩,λD hD=>fG (K:=K) (a:=a) (xs:=lH.map V.ref) (λn H'=>aD H H'/\∃qs:List Addr,H' D=some (.lst (qs.map V.ref))/\bQ (eh K Hc (λ_=>False) s j af) qs (((cZ s j af L (low m)).take n).filter λu=>decide (d4 u&&&m=d4 u))) ⟨aD.new hD,[],ak,bQ.nil⟩ (λn H' _ zz=> .of (zz.1 _ _ rl)) ?_ ?_⟩
  ·rintro _ _ _ _ n x H1 hx ⟨s1,qs,hq,mS⟩;obtain ⟨ca,hc,rfl⟩:=b0 hx;obtain ⟨u,hu,cat⟩:=nv.get' hc;refine ⟨rfl,_,rfl,aL (cat.mono (Nb.trans s1)).we ⟨_,rfl,_,_,rfl,rfl,_,rfl,aL (cat.mono (Nb.trans s1)).we ⟨rfl,_,rfl,?_⟩⟩⟩;by_cases Tz:d4 u&&&m=d4 u
   ·refine eqT (a:=Builtin.bitAnd ((d4 u:Nat):Int) (m:Int)) (by rw [Gp,Tz]) ?_;refine ⟨_,rfl,qs.map V.ref,hq,?_,aD.put s1 hD,qs++ [ca],by rw [ak,dP],?_⟩
    ·rw [ab,mS.1];have g1:=aO (λu=>decide (d4 u&&&m=d4 u)) ((cZ s j af L (low m)).take n);have g2:((cZ s j af L (low m)).take n).length<=L.length:=by
      rw [bc];exact aV (dj _ _) (aO _ _)
     have:sizeLine=16777216:=af5;omega
    ·rw [di hu,cD,br,decide_eq_true Tz];exact mS.snoc (cat.weak λ_ z=>z.elim)
   ·refine Nd (a:=Builtin.bitAnd ((d4 u:Nat):Int) (m:Int)) (by rw [Gp];omega) ?_;exact ⟨s1,qs,hq,by rw [di hu,cD,br,decide_eq_false Tz];simpa using mS⟩
  ·rintro H1 ⟨s1,qs,hq,mS⟩;rw [ab,nv.1,bo] at mS;exact q H1 D s1 hD ⟨qs,hq,mS⟩
end
end Lf
namespace Lf
open Vbahaf (rowLess least)
def pS (H:Hp) (v:V) (o:Option (List Int)):Prop:=match o with
 |none=>v= .fE
 |some r=> ∃p,v= .ref p/\H p=some (.tup (r.map V.int))
theorem pS.mono {H H':Hp} {v:V} {o:Option (List Int)} (h:pS H v o) (s:aD H H'):pS H' v o:=by
 cases o with
 |none=>exact h
 |some r=>
  obtain ⟨p,e,h⟩:=h;exact ⟨p,e,s _ _ h⟩
theorem pS.put {H:Hp} {l:Addr} {v:V} {o:Option (List Int)} {xs ys:List V} (h:pS H v o) (hl:H l=some (.lst xs)):pS (upd H l (.lst ys)) v o:=by
 cases o with
 |none=>exact h
 |some r=>
  obtain ⟨p,e,h⟩:=h;exact ⟨p,e,bm h (i8 h hl rfl)⟩
def iG (H:Hp) (l:Addr) (S:Nat->Option (List Int)) (M:Nat):Prop:= ∃xs:List V,H l=some (.lst xs)/\xs.length=M/\∀(i:Nat) (v:V),xs[i]?=some v->pS H v (S i)
theorem iG.mono {H H':Hp} {l:Addr} {S:Nat->Option (List Int)} {M:Nat} (h:iG H l S M) (s:aD H H'):iG H' l S M:=by
 obtain ⟨xs,h1,h2,h3⟩:=h;exact ⟨xs,s _ _ h1,h2,λi v z=>(h3 i v z).mono s⟩
theorem iG.snoc {H:Hp} {l:Addr} {S:Nat->Option (List Int)} {M:Nat} {xs:List V} {v:V} (h1:H l=some (.lst xs)) (h2:xs.length=M) (h3: ∀(i:Nat) (v:V),xs[i]?=some v->pS H v (S i)) (hv:pS H v (S M)):iG (upd H l (.lst (xs++ [v]))) l S (M+1):=by
 refine ⟨_,ak,by rw [aK,h2];rfl,λi y hy=>?_⟩;by_cases hi:i<xs.length
 ·rw [bV hi] at hy;exact (h3 i y hy).put h1
 ·rw [cy (by omega)] at hy;have Z9:i=M:=by
   have:=(aJ.mp hy).1;simp only [aS,dA] at this;omega
  subst Z9;rw [<-h2,tT] at hy;cases hy;exact hv.put h1
theorem zb (n:Nat):(1:Int)*2^((n:Int)).toNat=((2^n:Nat):Int):=by
 have e:((n:Int)).toNat=n:=by omega
 rw [e,Yp];simp
theorem Kl {n:Nat} (h:n<=8):2^n<=256:=aV (dS (by decide) h) (by decide)
def Two (S:Nat->Option (List Int)):Prop:= ∀i r,S i=some r->∃a b,r= [a,b]
inductive wv (K:aa) (vs:List V) (H:Hp) (Q:VK):Prop
 |mk (ca la:Addr) (u:Un) (S:Nat->Option (List Int)) (M m:Nat) (s:ag) (j:ai) (af:Int) (B:Addr->Prop):vs= [.ref ca, .ref la, .int m]->eh K H B s j af ca u->iG H la S M->Two S->d4 u<=m->m-d4 u<M->(∀(H':Hp) (v:V),aD H H'->pS H' v ((S (m-d4 u)).map (jM (pd s j af u) (cn u)))->Q v H')->wv K vs H Q
def rD (K:aa):Sp:=λvs H Q _=>wv K vs H Q
def iH (s:ag) (j:ai) (af:Int) (L:List Un) (m:Nat):Option (List Int):=Sm (cZ s j af L) d4 (pd s j af) cn m
theorem pk (s:ag) (j:ai) (af:Int) (L:List Un):Two (iH s j af L):=λ_ _ h=>jN h
inductive Gz (K:aa) (vs:List V) (H:Hp) (Q:VK):Prop
 |mk (H0:Hp) (s:ag) (j:ai) (af:Int) (l:Addr) (L:List Un) (al:Bool):vs= [.ref l]->iI K H0 H s j af l L->L.length<10000->j.segs.length<=8->jQ s j af al (cZ s j af L)->(∀(H':Hp) (r:Addr),aD H H'->H r=none->iG H' r (iH s j af L) (2^j.segs.length)->Q (.ref r) H')->Gz K vs H Q
def DS (K:aa):Sp:=λvs H Q _=>Gz K vs H Q
theorem N2 (s:ag) (j:ai) (af:Int) (u:Un):((jV s j af u).length:Int)=cn u:=by unfold jV cn;cases u.2<;>rfl
theorem qd {ch:Nat->List Un} {m:Nat} {u:Un} (h:u∈ji ch d4 m):d4 u<=m:=by
 have:=(au.mp h).2;have e:d4 u&&&m=d4 u:=by simpa using this
 rw [<-e];exact Pq
section
theorem Fx:ba ["choice","sums","mask","rest"] ["choice","sums","mask"] (aM (top 93)):=fi
theorem OG (D:Dn K mg "sum_with" (top 93) ["choice","sums","mask"]) (b:Bl mg):Fn P w K mg base "sum_with" 1 ["choice","sums","mask"] (rD K):=by
 refine D.go Fx λf db A outer s H vs Q E hr h=>?_
 ·intro Xc;obtain ⟨ca,la,u,S,M,m,s,j,af,B,rfl,hc,⟨xs,hl,hlen,hS⟩,two,Tz,hm,q⟩:=h;obtain ⟨lp,ps,_,EE,B0,gE⟩:=hc.parts;obtain ⟨v,hv⟩: ∃v,xs[m-d4 u]?=some v:=⟨_,ao (by omega)⟩
  have sv:=hS _ _ hv;refine ⟨_,(am (st 3 Fx.nd (bf aY (pv 1) (bX fU (pv 2) (aT (pv 0) rfl)) (λ_ _=>rfl)))
   (am (cE (fT (jE (pv 3)))
    (aA (aX lS))
    bI)
   (aA (aX (fB (ae (bX fD (bf cI (pv 3) aF (λ_ _=>rfl)) (aT (pv 0) rfl)) (ae (bX fD (bf cI (pv 3) aF (λ_ _=>rfl)) (iV b.len (aT (pv 0) rfl))) ax))))))),?_⟩
  refine qo ?_
  intros
  refine ⟨_,rfl,_,rfl,_,rfl,aL hc.we ⟨_,_,rfl,rfl,la,_,_,_,rfl,rfl, .of hl,at_of (j:=m-d4 u) (by omega) hv,?_⟩⟩;cases e:S (m-d4 u) with
  |none=>
   rw [e] at sv q;have sv:v= .fE:=sv;subst sv;exact ⟨_,rfl,_,rfl,q H .fE (aD.refl H) rfl⟩
  |some r=>
   obtain ⟨x,y,rfl⟩:=two _ _ e;rw [e] at sv q;obtain ⟨p,rfl,tp⟩:=sv;refine ⟨_,rfl,_,rfl,?_⟩;refine ⟨_,rfl,p,_,0,_,rfl,rfl, .of tp,at_of (j:=0) rfl rfl,_,rfl,aL hc.vh ⟨_,_,rfl,rfl,_,rfl,p,_,1,_,rfl,rfl, .of tp,at_of (j:=1) rfl rfl,_,rfl,aL EE ⟨lp,_,rfl, .inl (.of B0),_,_,rfl,rfl,(by show 2<=sizeLine;decide),λt1 n1=>?_⟩⟩⟩;refine q _ _ (aD.new n1) ⟨t1,rfl,?_⟩;rw [ak,ab,gE.1,N2];rfl
theorem lP:ba ["choices","sums","mask","found","choice","one"] ["choices"] (aM (top 94)):=fi
theorem OS (D:Dn K mg "least_sums" (top 94) ["choices"]) (b:Bl mg) (G1:Fn P w K mg base "choices_within" 2 ["choices","mask"] (qm K)) (G2:Fn P w K mg base "sum_with" 1 ["choice","sums","mask"] (rD K)):
  Fn P w K mg base "least_sums" 3 ["choices"] (DS K):=by
 refine D.go lP λf db A outer s H vs Q E hr h=>?_
 ·intro Xc;obtain ⟨H0,s,j,af,l,L,al,rfl,hC,hL,h8,hI,q⟩:=h;obtain ⟨ls,C⟩:=hC;obtain ⟨N,hN⟩: ∃N,N=2^j.segs.length:=⟨_,rfl⟩
  have hN8:N<=256:=by rw [hN];exact Kl h8
  have hN1:1<=N:=by rw [hN];exact MR
  rw [<-hN] at q;have VU:(ls.map V.ref).length<=8:=by rw [ab,C.len];exact h8
  have Ss:(1:Int)*2^(((ls.map V.ref).length:Nat):Int).toNat=(N:Int):=by rw [zb,ab,C.len,hN]
  refine ⟨_,(am (st 1 lP.nd (bJ (ae (fB (ae aF (ae aF ax))) ax)))
   (am (dk PassesOwn.never rfl (iC rfl b.range (ae aF (ae (bX zr aF (iV b.len (pv 0))) ax))) (gn 2 lP.nd)
    (am (qy (i:=3) rfl lP.nd rfl rfl (tY rfl rfl rfl rfl) (cC (pc G1 hr (ae (pv 0) (ae (pv 2) ax)))) (cT (own:= [("choice",4)]) (by kernel_rfl))
    (λ_ _ _ _ _=>(gn 4 lP.nd)) (λ_ _ _ _ _=>eY)
    (λ_ _ _ _ _=>(pc G2 hr (ae (pv 4) (ae (pv 1) (ae (pv 2) ax))))))
   (aA (eD (Cg (pv 1) (FI rfl hr.units b.min (ir rfl lP.nd (cC (pv 3)) (cT (own:= [("one",5)]) (by kernel_rfl))
    (λ_ _ _ _ _=>(gn 5 lP.nd)) (λ_ _ _ _ _=>(ox (fT (FK (pv 5)))))
    (λ_ _ _ _ _=>(pv 5)))))))))
   (aA (aX (pv 1))))),?_⟩
  refine qo ?_
  intros
  refine ⟨(by show 2<=sizeLine;decide),λt0 n0=>⟨(by show 1<=sizeLine;decide),λl1 rh=>?_⟩⟩;have s1:aD H (upd (upd H t0 (.tup [.int 0, .int 0])) l1 (.lst [.ref t0])):=(aD.new n0).trans (aD.new rh);have nl:H l1=none:=(aD.new n0).free rh;have S0:iG (upd (upd H t0 (.tup [.int 0, .int 0])) l1 (.lst [.ref t0])) l1 (iH s j af L) 1:=by
   refine ⟨_,ak,rfl,λi v hv=>?_⟩;cases i with
   |zero=>
    cases hv;unfold iH;rw [Ai];exact ⟨t0,rfl,bm ak λe=>by rw [e,ak] at rh;cases rh⟩
   |succ i=>simp at hv
  generalize (upd (upd H t0 (.tup [.int 0, .int 0])) l1 (.lst [.ref t0]))=H1 at s1 S0;refine ⟨_,rfl,l,_,rfl, .inl (.of (s1 _ _ C.lst)),_,_,rfl,rfl,⟨by omega,by omega,by decide⟩,_,_,rfl,?_,?_⟩
  ·rw [Ss];exact ⟨by omega,by omega,by omega,by omega⟩
  ·refine g8 (lo:=1) (λk σ H'=>(∃v2 v3 v4 v5,σ= [some (.ref l),some (.ref l1),v2,v3,v4,v5])/\aD H H'/\iG H' l1 (iH s j af L) (k+1)) ⟨⟨_,_,_,_,rfl⟩,s1,S0⟩ ?_ ?_
   ·rintro _ _ _ k σ H2 hk ⟨⟨v2,v3,v4,v5,rfl⟩,s2,S2⟩;rw [Ss] at hk;have em:(1:Int)+(k:Int)=((k+1:Nat):Int):=by omega
    rw [em];refine ⟨_,rfl,_,rfl,H0,H,s,j,af,l,L,k+1,rfl,⟨ls,C⟩,s2,hL,by omega,by rw [<-hN];omega,λH3 r s3 nr Ay=>?_⟩;obtain ⟨lH,xl,nv⟩:=Ay;have C3:aD H H3:=s2.trans s3;refine ⟨r,rfl,⟨_, .of xl⟩,λD hD=>fG (K:=K) (a:=r) (xs:=lH.map V.ref) (λn H'=>aD H3 H'/\∃ys:List V,H' D=some (.lst ys)/\bQ (pS H') ys (((ji (cZ s j af L) d4 (k+1)).take n).map λu=>(iH s j af L (k+1-d4 u)).map (jM (pd s j af u) (cn u)))) ⟨aD.new hD,[],ak,bQ.nil⟩ (λn H' _ zz=> .of (zz.1 _ _ xl)) ?_ ?_⟩
    ·rintro _ _ _ _ n x H4 hx ⟨s4,ys,hy,MZ⟩;obtain ⟨ca,rl,rfl⟩:=b0 hx;obtain ⟨u,hu,cat⟩:=nv.get' rl;have M0:=aH hu;refine ⟨rfl,_,rfl,_,rfl,_,rfl,ca,l1,u,_,k+1,k+1,s,j,af,_,rfl,cat.mono (C3.trans s4),S2.mono (s3.trans s4),pk s j af L,qd M0,qe hI.ok M0,λH5 v s5 hv=>?_⟩;refine ⟨ys,s5 _ _ hy,?_,aD.put (s4.trans s5) hD,ys++ [v],ak,?_⟩
     ·rw [MZ.1,ab,bc];have g:(ji (cZ s j af L) d4 (k+1)).length<=L.length:=aV (aO _ _) (aO _ _);have:sizeLine=16777216:=af5;omega
     ·rw [di hu,aP];exact (MZ.mono λ_ _ z=>(z.mono s5).put (s5 _ _ hy)).snoc (hv.put (s5 _ _ hy))
    ·rintro H4 ⟨s4,ys,hy,MZ⟩;rw [ab,nv.1,bo] at MZ;obtain ⟨xs,Ji,qH,P2⟩:=S2.mono (s3.trans s4);refine ⟨_,rfl, .inl ⟨rfl,_, .of Ji⟩,_,rfl,D,rfl,⟨_, .of hy⟩,λD2 TD=>fG (K:=K) (a:=D) (xs:=ys) (λn H'=>aD H4 H'/\pT H' D2 ((((ji (cZ s j af L) d4 (k+1)).map λu=>(iH s j af L (k+1-d4 u)).map (jM (pd s j af u) (cn u))).take n).filterMap id)) ⟨aD.new TD,[],ak,bQ.nil⟩ (λn H' _ zz=> .of (zz.1 _ _ hy)) ?_ ?_⟩
     ·rintro _ _ _ _ n y H5 Xo ⟨s5,ps,hp,gE⟩;obtain ⟨o,ho,sv⟩:=MZ.get' Xo;cases o with
      |none=>
       have sv:y= .fE:=sv;subst sv;refine ⟨rfl,_,rfl,_,rfl,?_⟩;refine ⟨s5,ps,hp,by rw [di ho,gg];simpa using gE⟩
      |some r0=>
       obtain ⟨p,rfl,tp⟩:=sv;refine ⟨rfl,_,rfl,_,rfl,?_⟩;refine ⟨_,rfl,ps.map V.ref,hp,?_,aD.put s5 TD,ps++ [p],by rw [ak,dP],?_⟩
       ·rw [ab,gE.1];have g0:=List.length_filterMap_le id ((((ji (cZ s j af L) d4 (k+1)).map λu=>(iH s j af L (k+1-d4 u)).map (jM (pd s j af u) (cn u))).take n));rw [bc,ab] at g0;have g:(ji (cZ s j af L) d4 (k+1)).length<=L.length:=aV (aO _ _) (aO _ _);have:sizeLine=16777216:=af5;omega
       ·rw [di ho,gg];exact (gE.mono λa b z=>bm z (i8 z hp rfl)).snoc (bm (s5 _ _ tp) (i8 (s5 _ _ tp) hp rfl))
     ·rintro H5 ⟨s5,ps,hp,gE⟩;rw [MZ.1,bo,Jp] at gE;have eS:iH s j af L (k+1)=least ((ji (cZ s j af L) d4 (k+1)).filterMap (id∘λu=>(iH s j af L (k+1-d4 u)).map (jM (pd s j af u) (cn u)))):=Gr hI.ok (by omega);have Xq:=s5 _ _ Ji;have hz:xs.length<sizeLine:=by
       have:sizeLine=16777216:=af5;omega
      have hS5: ∀(i:Nat) (v:V),xs[i]?=some v->pS H5 v (iH s j af L i):=λi v z=>(P2 i v z).mono s5;have s05:aD H H5:=(C3.trans s4).trans s5;refine ⟨D2,ps,_,rfl, .of hp,gE.mono λ_ _ z=> .of z,λe0=>?_,λi p r0 hpi Dm hle=>?_⟩
      ·refine ⟨l1,xs, .fE,rfl,rfl,Xq,hz,⟨_,_,_,_,rfl⟩,aD.put s05 nl,iG.snoc Xq qH hS5 ?_⟩;have e1:((ji (cZ s j af L) d4 (k+1)).filterMap (id∘λu=>(iH s j af L (k+1-d4 u)).map (jM (pd s j af u) (cn u))))= []:=bR (by rw [<-gE.1,e0];rfl);rw [eS,e1];rfl
      ·refine ⟨l1,xs, .ref p,rfl,rfl,Xq,hz,⟨_,_,_,_,rfl⟩,aD.put s05 nl,iG.snoc Xq qH hS5 ?_⟩;rw [eS,hle];exact ⟨p,rfl,gE.2 i p r0 hpi Dm⟩
   ·rintro σ H2 ⟨⟨v2,v3,v4,v5,rfl⟩,s2,S2⟩;rw [Ss] at S2;refine ⟨_,rfl,q H2 l1 s2 nl ?_⟩;have e:((N:Int)-1).toNat+1=N:=by omega
    rw [e] at S2;exact S2
end
end Lf
namespace Lf
open Sem (wp)
open AutoSeq1 (wpAny_loadPart')
section
variable {prog:afZ} {A:af3} {E:Value->afU->Prop} {s:afU}
theorem uC (a v:Value):checkTypeCall "enumerate" ⟨[a],[(Str.ofString "start",v)]⟩=pure ():=by kernel_rfl
theorem xc (a v:Value):ahh "enumerate.__new__" ⟨[.type "enumerate",a],[(Str.ofString "start",v)]⟩=pure ():=by kernel_rfl
theorem EW (a b v:Value):ags "object.__init__" ⟨[a,b],[(Str.ofString "start",v)]⟩:=by
 unfold ags;rw [signature?_of (id:= "object.__init__") (n:= ['_','_','t','i','n','i','_','_']) (o:= ['t','c','e','j','b','o']) (by kernel_rfl) F.owner_object];kernel_rfl
theorem rN {self a v:Value}:
  Meets (agg.«object.__init__» ⟨[self,a],[(Str.ofString "start",v)]⟩) (λ_ R s=>s.TypeIs self "enumerate"/\R (.ok (.ret .none)) s):=by
 refine Meets.of_wp λprog w A R s hs=>?_;obtain ⟨hT,hq⟩:=hs;have hl:=F.slot_enumerate_init.lookup;have hm:=F.called_enumerate.made;have fZ:(some "enumerate.__new__" !=some "object.__new__")=true:=by decide
 repeat (any_goals (first|assumption|wp_step))
 exact ⟨_,rfl,hq⟩
theorem xq {T newId Ey:String} {Bn Bi:agg} {args:List Value} {kw:List (Str×Value)} {S:PySem.Spec} {Q Q₁:Value->afU->Prop} (ft:TypeCalled T newId Ey)
  (hct:checkTypeCall T ⟨args,kw⟩=pure ()) (hcn:ahh newId ⟨.type T::args,kw⟩=pure ())
  (Su:entryFor table newId=some Bn) (Sw:entryFor table Ey=some Bi) (g:Meets (Bn ⟨.type T::args,kw⟩) S)
  (h:S A.in1 (wants Q₁ E) s)
  (VN: ∀obj dz,Q₁ obj dz->dz.TypeIs obj T/\ags Ey ⟨obj::args,kw⟩/\∃Si,Meets (Bi ⟨obj::args,kw⟩) Si/\Si A.in1 (wants (λr kh=>r= .none/\Q obj kh) E) dz):
  wpAny (afY prog w) A (call (.type T) args kw) Q E s:=by
 obtain ⟨c,tl,aea⟩:=ft.mro;have abJ:=ft.made;have RO:=ft.sub;refine ag8 (codeAny_of_tree ?_);show wpAny _ _ (callAny (.type T) _) _ _ _;refine af2 ⟨Code.quiet_builtin _ (by decide+kernel),agI F.entry_type_call ?_⟩;rw [Around.under_plain (weight_type_call_type T args kw) (units_type_call_type T args kw)];have h1:=ft.notType;have h2:=ft.canCreate
 repeat (any_goals (first|assumption|wp_step))
 refine agF (ahg ft.plain Su (ahd hcn (g prog w A.in1 _ s h))) λr dz hr=>?_;cases r with
 |error e=>exact hr
 |ok fl=>
  cases fl with
  |ret obj=>
   obtain ⟨hT,cN,Si,gi,hsi⟩:=VN _ _ hr;have hli:=ft.init.lookup;have XG:=ft.init.bind obj
   repeat (any_goals (first|assumption|wp_step))
   refine agF (ahg ft.init.plain Sw (ft.init.check _ _ _ _ _ _ _ _ hT cN (gi prog w A.in1 _ dz hsi))) λYJ kh K1=>?_;cases YJ with
   |error e=>exact K1
   |ok Ws=>
    cases Ws with
    |ret r=>
     obtain ⟨rfl,hq⟩:=K1
     repeat (any_goals (first|assumption|wp_step))
    |_=>exact K1.elim
  |_=>exact hr.elim
theorem IH (l:Addr) (items:Array Value) (n:Nat) (dct:Option Addr) (sl:Array (Option Value)) (t:Tok):
  Meets (agg.«enumerate.__new__» ⟨[.type "enumerate", .ref l],[(Str.ofString "start", .int 1 t)]⟩) (λ_ R s=>s.heap.get? l=some {cls:= .type "list",dict:=dct,data:= .seq items n,slots:=sl}/\
   R (.ok (.ret (.ref (s.heap.push {cls:= .type "list_iterator",data:= .fields #[.ref l, .int 0 0]}).objs.size)))
    {s with heap:=(s.heap.push {cls:= .type "list_iterator",data:= .fields #[.ref l, .int 0 0]}).push {cls:= .type "enumerate",data:= .fields #[.none, .bool false, .ref s.heap.objs.size,rawInt 1, .none, .none]}}):=
 .of_wp λprog w A R s h=>by
  obtain ⟨hp,g,d,tk,os⟩:=s;obtain ⟨hl,h⟩:=h;have RO:=sub_enumerate;have hL:Heap.IsList (Shared.heap ⟨hp,g,d,tk,os⟩) l items:=⟨_,hl,rfl,n,rfl⟩
  wp_walk using wpAny_loadPart' hl
  refine wpAny_stack_any λst=>af2 ?_;split
  ·rename_i c _ _ _ _ _
   cases (c==Value.type "enumerate")
   ·wp_walk using wpAny_loadPart' hl,agE hL
    exact ⟨_,rfl,h⟩
   ·wp_walk using wpAny_loadPart' hl,agE hL
    exact ⟨_,rfl,h⟩
  ·wp_walk using wpAny_loadPart' hl,agE hL
   exact ⟨_,rfl,h⟩
end
end Lf
namespace Lf
open Sem (wp)
section
variable {prog:afZ} {A:af3} {E:Value->afU->Prop} {s:afU}
theorem EU {l:Addr} {items:Array Value} {t:Tok} {Q:Value->afU->Prop} (hL:s.heap.IsList l items)
  (h: ∀h',agl h' (s.heap.objs.size+1) s.heap.objs.size 1 .none->h'.IsListIter s.heap.objs.size l 0->h'.objs.size=s.heap.objs.size+2->
   (∀b o,s.heap.get? b=some o->h'.get? b=some o)->Q (.ref (s.heap.objs.size+1)) {s with heap:=h'}):
  wpAny (afY prog w) A (call (.type "enumerate") [.ref l] [(Str.ofString "start", .int 1 t)]) Q E s:=by
 obtain ⟨⟨c,dct,dt,sl⟩,hl,hc,n,hd⟩:=hL;replace hc:c= .type "list" :=hc;replace hd:dt= .seq items n:=hd;subst hc hd;refine xq (Q₁:=λobj dz=>dz.TypeIs obj "enumerate"/\Q obj dz) F.called_enumerate (uC _ _) (xc _ _) F.entry_enumerate_new F.entry_object_init
  (IH l items n dct sl t) ⟨hl,?_⟩ λobj _ hq=>⟨hq.1,EW obj _ _,_,rN,hq.1,rfl,hq.2⟩
 have hz:(s.heap.push {cls:= .type "list_iterator",data:= .fields #[.ref l, .int 0 0]}).objs.size=s.heap.objs.size+1:=Heap.size_push ..;show _/\_;rw [hz];have he:agl ((s.heap.push {cls:= .type "list_iterator",data:= .fields #[.ref l, .int 0 0]}).push
   {cls:= .type "enumerate",data:= .fields #[.none, .bool false, .ref s.heap.objs.size,rawInt 1, .none, .none]}) (s.heap.objs.size+1) s.heap.objs.size 1 .none:=by
  rw [<-hz];exact Heap.get?_push_size _ rfl
 refine ⟨⟨_,he,rfl⟩,h _ he ⟨_,Heap.get?_push_of_some _ (Heap.get?_push_size _ rfl),rfl,rfl⟩ (by rw [Heap.size_push,hz]) λb o hb=>Heap.get?_push_of_some _ (Heap.get?_push_of_some _ hb)⟩
theorem EK {e it l:Addr} {k:Nat} {i:Int} {items:Array Value} {x old:Value} {Q:Value->afU->Prop}
  (he:agl s.heap e it i old) (hit:s.heap.IsListIter it l k) (hl:s.heap.IsList l items) (hx:items[k]?=some x) (fZ:e≠it)
  (hQ: ∀h',IsEnumOut h' e it (i+1) x s.heap.objs.size->h'.IsListIter it l (k+1)->
   h'.get? s.heap.objs.size=some {cls:= .type "tuple",data:= .seq #[.int i s.toks,x]}->h'.objs.size=s.heap.objs.size+1->
   (∀b o,b≠e->b≠it->s.heap.get? b=some o->h'.get? b=some o)->Q (.ref s.heap.objs.size) {s with heap:=h',toks:=s.toks+1}):
  wpAny (afY prog w) A (agg.«enumerate.__next__» ⟨[.ref e],[]⟩) (λfin s'=> ∃v,fin= .done (.ret v)/\Q v s') E s:=by
 obtain ⟨hp,g,d,tk,os⟩:=s;show wpAny _ _ (field (.ref e) 2>>=_) _ _ _;refine afX (agT he rfl (x:= .ref it) rfl ?_);refine afX (wpAny_nextOf_list_item hit hl hx λpO K8 yg=>?_);replace yg:Heap.SameBut it hp pO:=yg;have Ga:agl pO e it i old:=(yg.2 e fZ).trans he;show wpAny _ _ (field (.ref e) 3>>=_) _ _ ⟨pO,g,d,tk,os⟩;refine afX (agT Ga rfl (x:=rawInt i) rfl ?_);show wpAny _ _ (field (.ref e) 4>>=_) _ _ ⟨pO,g,d,tk,os⟩;refine afX (agT Ga rfl (x:= .none) rfl ?_);show wpAny _ _ (mkInt i>>=_) _ _ ⟨pO,g,d,tk,os⟩;refine afX (wpAny_mkInt ?_);show wpAny _ _ (setField (.ref e) 3 (rawInt (i+1))>>=_) _ _ ⟨pO,g,d,tk+1,os⟩;refine afX (ag3 Ga (by simp) λvM F9 yf=>?_);replace yf:Heap.SameBut e pO vM:=yf;replace F9:agl vM e it (i+1) old:=F9;show wpAny _ _ (setField (.ref e) 4 .none>>=_) _ _ ⟨vM,g,d,tk+1,os⟩;refine afX (ag3 F9 (by simp) λtG F8 ye=>?_);replace ye:Heap.SameBut e vM tG:=ye;replace F8:agl tG e it (i+1) old:=F8;show wpAny _ _ (newTuple [.int i tk,x] >>=_) _ _ ⟨tG,g,d,tk+1,os⟩;refine afX (wpAny_newTuple ?_);have F7:agl (tG.push {cls:= .type "tuple",data:= .seq #[.int i tk,x]}) e it (i+1) old:=Heap.get?_push_of_some _ F8;generalize B6:tG.push {cls:= .type "tuple",data:= .seq #[.int i tk,x]}=BV at F7;have hsz:tG.objs.size=hp.objs.size:=by rw [ye.1,yf.1,yg.1]
 have OD:e<hp.objs.size:=Heap.lt_size he;have Vv:BV.get? hp.objs.size=some {cls:= .type "tuple",data:= .seq #[.int i tk,x]}:=by rw [<-B6, <-hsz];exact Heap.get?_push_size _ rfl
 have Vp:BV.objs.size=hp.objs.size+1:=by rw [<-B6,Heap.size_push,hsz]
 have VX: ∀b o,b≠e->b≠it->hp.get? b=some o->BV.get? b=some o:=λb o EC XG hb=>by
  rw [<-B6];exact Heap.get?_push_of_some _ (ye.extBut b o EC (yf.extBut b o EC (yg.extBut b o XG hb)))
 have RY:BV.IsListIter it l (k+1):=by
  rw [<-B6];obtain ⟨o,ho,r⟩:=(K8.extBut yf.extBut (fc fZ)).extBut ye.extBut (fc fZ);exact ⟨o,Heap.get?_push_of_some _ ho,r⟩
 show wpAny _ _ (Builtin.SmallTypes.ownedTupleIsFree (.ref e)>>=_) _ _ ⟨BV,g,d,tk+1,os⟩;rw [hsz];clear B6 F8 ye F9 yf Ga yg K8 hsz tG vM pO;refine afX ?_
 ·unfold Builtin.SmallTypes.ownedTupleIsFree;refine afX (agT F7 rfl (x:= .none) rfl (af2 ?_));simp only [if_true];refine afX (ag2 ?_);refine afX (agT F7 rfl (x:=old) rfl ?_);refine afX (ag3 F7 (by simp) λHY Le yd=>?_);replace yd:Heap.SameBut e BV HY:=yd;replace Le:agl HY e it (i+1) x:=Le;show wpAny _ _ (Builtin.SmallTypes.ownedTupleHandOut (.ref e) (.ref hp.objs.size)>>=_) _ _ ⟨HY,g,d,tk+1,os⟩;refine afX ?_
  ·unfold Builtin.SmallTypes.ownedTupleHandOut;refine afX (ag3 Le (by simp) λRL Ld yc=>?_);replace yc:Heap.SameBut e HY RL:=yc;replace Ld:IsEnumOut RL e it (i+1) x hp.objs.size:=Ld;refine ag3 Ld (by simp) λRK Lc yb=>?_;replace yb:Heap.SameBut e RL RK:=yb;replace Lc:IsEnumOut RK e it (i+1) x hp.objs.size:=Lc;refine afX (agJ (af2 ⟨_,rfl,hQ RK Lc ?_ ?_ ?_ ?_⟩))
   ·exact ((RY.extBut yd.extBut (fc fZ)).extBut yc.extBut (fc fZ)).extBut yb.extBut (fc fZ)
   ·exact yb.extBut _ _ (gR OD) (yc.extBut _ _ (gR OD) (yd.extBut _ _ (gR OD) Vv))
   ·rw [yb.1,yc.1,yd.1,Vp]
   ·exact λb o EC XG hb=>yb.extBut b o EC (yc.extBut b o EC (yd.extBut b o EC (VX b o EC XG hb)))
theorem zo {e it l:Addr} {k:Nat} {i:Int} {items:Array Value} {x old:Value} {Q:Option Value->afU->Prop}
  (he:agl s.heap e it i old) (hit:s.heap.IsListIter it l k) (hl:s.heap.IsList l items) (hx:items[k]?=some x) (fZ:e≠it)
  (hQ: ∀h',IsEnumOut h' e it (i+1) x s.heap.objs.size->h'.IsListIter it l (k+1)->
   h'.get? s.heap.objs.size=some {cls:= .type "tuple",data:= .seq #[.int i s.toks,x]}->h'.objs.size=s.heap.objs.size+1->
   (∀b o,b≠e->b≠it->s.heap.get? b=some o->h'.get? b=some o)->Q (some (.ref s.heap.objs.size)) {s with heap:=h',toks:=s.toks+1}):
  wpAny (afY prog w) A (agm (.ref e)) Q E s:=by
 have hT:s.TypeIs (.ref e) "enumerate" :=⟨_,he,rfl⟩
 unfold agm;exact afX (wpAny_attempt (ahj (name:=Str.ofString "__next__") hT F.slot_enumerate_next
  (ahk F.slot_enumerate_next hT F.entry_enumerate_next
   (EK he hit hl hx fZ λh' a b c d k=>af2 (hQ h' a b c d k)) (F.args_enumerate_next_1 _))))
theorem tq {e it l:Addr} {k:Nat} {i:Int} {items:Array Value} {old:Value} {Q:Option Value->afU->Prop} (hh:A.handled=none)
  (he:agl s.heap e it i old) (hit:s.heap.IsListIter it l k) (hl:s.heap.IsList l items) (hx:items[k]?=none)
  (hQ: ∀h',Heap.ExtBut it s.heap h'->Q none {s with heap:=h'}):wpAny (afY prog w) A (agm (.ref e)) Q E s:=by
 have hT:s.TypeIs (.ref e) "enumerate" :=⟨_,he,rfl⟩
 unfold agm;refine afX (wpAny_attempt (ahj (name:=Str.ofString "__next__") hT F.slot_enumerate_next
  (ahk F.slot_enumerate_next hT F.entry_enumerate_next ?_ (F.args_enumerate_next_1 _))))
 show wpAny _ _ (field (.ref e) 2>>=_) _ _ _;refine afX (agT he rfl (x:= .ref it) rfl ?_);refine afX (wpAny_nextOf_list_end hh hit hl hx λh' x R4 KZ=>?_);obtain ⟨o,ho,hc⟩:=KZ;refine afX (wpAny_isInstance (T:= "StopIteration") (b:=true) ⟨o,ho,hc⟩ isSubtype_stop ?_);exact af2 (hQ _ R4)
end
def ItK (K:aa) (a:Addr):It:=
 ⟨λi H=> ∃(xs:List V) (x:V),iL K H a xs/\xs[i]?=some x,λi H v H'=> ∃T x,v= .ref T/\H T=none/\H'=upd H T (.tup [.int ((i:Int)+1),x])/\∀xs,iL K H a xs->xs[i]?=some x,λi H=> ∃xs:List V,iL K H a xs/\xs.length<=i⟩
theorem DG {P:afZ} {w:afW} {K:aa} {elts:List af0} {kk:Nat} {mK:Pos} (a e it:Addr):
  Turn P w K (.Tuple elts kk mK) (ItK K a) [e,it] e (λi h=>(∃old,agl h e it (((i:Nat):Int)+1) old)/\h.IsListIter it a i/\e≠it) where
 mem:=by simp
 obj:=λi h st b hb=>by
  obtain ⟨⟨old,he⟩,⟨o,ho,hc,hd⟩,_⟩:=st;have e':b=e∨b=it:=by simpa using hb
  rcases e' with z|z
  ·rw [z];exact ⟨_,he,λv q=>nomatch q⟩
  ·rw [z];exact ⟨o,ho,λv q=>by rw [hd] at q;cases q⟩
 keep:=λi h h' st k=>let ⟨⟨old,he⟩,hi,fZ⟩:=st;⟨⟨old,k e (by simp) _ he⟩,hi.at λo q=>k it (by simp) o q,fZ⟩
 item:=by
  intro X hP hw hK hc i pins s σ H E I hf st hg;subst hP hw hK;obtain ⟨⟨old,he⟩,hit,fZ⟩:=st;obtain ⟨xs,x,hq,hx⟩:=hg;obtain ⟨its,rv,p,hz⟩:=I.list hq;obtain ⟨u,hu,ru⟩:=rv.get hx;have OD:e<s.heap.objs.size:=Heap.lt_size he;have Z8:it<s.heap.objs.size:=by obtain ⟨_,q,_⟩:=hit;exact Heap.lt_size q
  refine zo he hit p.isList (x:=u) (by simpa using hu) fZ λh' ho RZ hT hsz hk=>?_;refine ⟨_,rfl,ahl (s:={s with heap:=h',toks:=s.toks+1}) ho λwL R4 sb=>?_⟩;have Ll:wL.get? s.heap.objs.size=some {cls:= .type "tuple",data:= .seq #[.int ((i:Int)+1) s.toks,u]}:=(sb.2 _ (gR OD)).trans hT;have new:dR X.prog X.w (upd H s.heap.objs.size (.tup [.int ((i:Int)+1),x])) wL s.heap.objs.size (.tup [.int ((i:Int)+1),x]):=
   ⟨by show 2<=sizeLine;decide,[.int ((i:Int)+1) s.toks,u], .cons ⟨_,rfl⟩ (.cons ru .nil),⟨_,Ll,rfl,_,rfl⟩⟩
  have I1:Inv X pins σ (upd H s.heap.objs.size (.tup [.int ((i:Int)+1),x])) {s with heap:=wL,toks:=s.toks+1}:=
   I.om (ch:= [e,it]) (λb ob hb q=>(sb.2 b (λz=>hb (by simp [z]))).trans (hk b ob (λz=>hb (by simp [z])) (λz=>hb (by simp [z])) q)) hf (ay _) new
  refine ⟨.ref s.heap.objs.size,_,I1,rfl,⟨_,x,rfl,I.cN.fresh (ay _),rfl,λys hy=>by rw [I.nn hy hq];exact hx⟩,⟨⟨u,?_⟩,RZ.at λo q=>(sb.2 it (fc fZ)).trans q,fZ⟩,λb hb=>?_⟩
  ·have e1:((i+1:Nat):Int)+1=(i:Int)+1+1:=by omega
   rw [e1];exact R4
  ·have P9:b<s.heap.objs.size:=by
    have e':b=e∨b=it:=by simpa using hb
    rcases e' with z|z
    ·rw [z];exact OD
    ·rw [z];exact Z8
   rw [bK (bH P9)];exact (hf b hb).1
 done:=by
  intro X hP hw hK hc i pins s σ H E I hf st hg;subst hP hw hK;obtain ⟨⟨old,he⟩,hit,fZ⟩:=st;obtain ⟨xs,hq,hx⟩:=hg;obtain ⟨its,rv,p,hz⟩:=I.list hq;obtain ⟨f0,f1,f2,f3,f4,f5⟩:=hf it (by simp);have hl:=rv.length;exact tq (I.ok.hd hc) he hit p.isList (by simp;omega) λh' eb=>⟨rfl,I.turned (t':=s.toks) (λb o hb q=>eb b o hb q) f0 f1 f3 f4 f5⟩
 self:=λA i s Q E st h=>let ⟨⟨_,he⟩,_⟩:=st;ahb he h
section
variable {M:Model} {A:af3} {E:Value->afU->Prop} {s:afU} {env:Env}
theorem wl {pos:Pos} {T:String} {args:List (Bool×Sem Value)} {keywords:List (Option Str×Sem Value)} {Q:Value->afU->Prop}
  (hplain:args.any (·.1)=false) (hkw:keywords.any (·.1.isNone)=false)
  (h:wpAny M A (evalArgs (.type T) true args keywords) (λa dz=>wpAny M A (call (.type T) ([] ++a.pos) a.kw) Q E dz) E s):
  wpAny M A (ag0 pos (.type T) [] args keywords) Q E s:=by
 unfold ag0;refine afX (agp (wpAny_mono h (λa dz pO=>afX (agV ?_)) λ_ _ x=>x));simp only [hplain,hkw,rc];refine afX (af2 ?_);exact afX (wpAny_mono pO (λr kh hr=>afX (agp (wpAny_point (af2 hr)))) λ_ _ x=>x)
end
def RJ (K:aa) (te:TE):TI:=λσ H R=>te σ H λx H1=> ∃a xs,x= .ref a/\iL K H1 a xs/\R (ItK K a) H1
theorem Bq {X:Cx} {e:af0} {te:TE} {p pos mK Eu eU:Pos} {elts:List af0} {kk c:Nat} (hg:Gl X "enumerate") (hm:X.mg "enumerate" =none) (he:PE X e te) (hs:af1 [e] X.env= [(false,eval e X.env)]:=by rfl):
  PI X (.Tuple elts kk mK) (.Call (.Name "enumerate" p) [e] [⟨some "start", .Constant (.int 1) c eU,Eu⟩] pos) (RJ X.K te):=by
 intro pins s σ H R I h;refine agG (lZ I hg hm boot_enumerate ?_);have hA:PA X [e] (iq te oS):=ae he ax hs;have hK:PK X [⟨some "start", .Constant (.int 1) c eU,Eu⟩] (iq (tC (.int 1)) oS):=FF aF Kn;refine wl (by rw [hs];rfl) rfl ?_;have hb:af9 pos (af1 [e] X.env)=(false,eval e X.env):: []:=by rw [hs];rfl
 rw [hb];refine evalArgs_kwB rfl ?_;rw [<-hb];refine dD (hA pos pins s σ H (λvs H1=>match vs with
  | [x]=> ∃(a:Addr) (xs:List V),x= .ref a/\iL X.K H1 a xs/\R (ItK X.K a) H1
  |_=>False) I h) λus s1 ⟨vs,H1,I1,r1,q1⟩=>?_
 match vs,q1,r1 with
 | [x],q1,r1=>
  obtain ⟨a,xs,rfl,hq,q⟩:=q1;rw [Vals.zn r1];refine dD (hK pos pins s1 σ H1 (λzs H2=>zs= [.int 1]/\H2=H1) I1 ⟨rfl,rfl⟩) λws s2 ⟨zs,H2,I2,rz,ez,eH⟩=>?_;subst ez eH;obtain ⟨u,rfl,ru⟩:=vals1 rz;obtain ⟨t,rfl⟩: ∃t,u=Value.int 1 t:=ru;show wpAny _ _ (call (.type "enumerate") [.ref a] [(Str.ofString "start", .int 1 t)]) _ _ _;obtain ⟨its,rv,p',hz⟩:=I2.list hq;refine EU p'.isList λh' he hit hsz hk=>ahb he ?_;have I3:Inv X pins σ H2 {s2 with heap:=h'}:=I2.kept (t':=s2.toks) hk;refine ⟨s2.heap.objs.size+1,[s2.heap.objs.size+1,s2.heap.objs.size],_,_,H2,rfl,I3,DG a (s2.heap.objs.size+1) s2.heap.objs.size,⟨⟨.none,he⟩,hit,wF _⟩,λb hb=>?_,q⟩;have e':b=s2.heap.objs.size+1∨b=s2.heap.objs.size:=by simpa using hb
  have hle:s2.heap.objs.size<=b:=by
   rcases e' with z|z
   ·rw [z];exact dN _ _
   ·rw [z];exact ay _
  exact I2.EF hle (I2.cN.fresh hle)
end Lf
namespace Lf
open Vbahaf (rowLess least placeIn)
abbrev Dt:=cP×Int×Option cP
section
variable {α β:Type} {R:α->β->Prop}
theorem bQ.cons {a:α} {b:β} {as:List α} {bs:List β} (r:R a b) (h:bQ R as bs):bQ R (a::as) (b::bs):=by
 have:=bQ.append (bQ.snoc bQ.nil r) h;simpa using this
theorem bQ.DC {a:α} {as:List α} {bs:List β} (h:bQ R (a::as) bs): ∃b Pf,bs=b::Pf/\R a b/\bQ R as Pf:=by
 cases bs with
 |nil=>exact absurd h.1 (by simp)
 |cons b Pf=>exact ⟨b,Pf,rfl,h.2 0 a b rfl rfl,by simpa using h.1,λi x y hx hy=>h.2 (i+1) x y (by simpa using hx) (by simpa using hy)⟩
theorem bQ.perm {as XZ:List α} (h:as.Perm XZ): ∀{bs:List β},bQ R as bs->∃Pf,bs.Perm Pf/\bQ R XZ Pf:=by
 induction h with
 |nil=>exact λ{bs} h=>⟨bs, .refl _,h⟩
 |cons a p ih=>
  intro bs h;obtain ⟨b,Pf,rfl,r,h⟩:=h.DC;obtain ⟨cs,q,h⟩:=ih h;exact ⟨b::cs,q.cons b,h.cons r⟩
 |swap a a' l=>
  intro bs h;obtain ⟨b,Pf,rfl,r,h⟩:=h.DC;obtain ⟨b',aaN,rfl,r',h⟩:=h.DC;exact ⟨b'::b::aaN, .swap _ _ _,(h.cons r).cons r'⟩
 |trans p1 p2 ih1 Zq=>
  intro bs h;obtain ⟨cs,q1,h⟩:=ih1 h;obtain ⟨ds,q2,h⟩:=Zq h;exact ⟨ds,q1.trans q2,h⟩
end
structure xx (P:List Dt):Prop where
 nd:(P.map λx=>x.1.1).Nodup
 pt: ∀x∈P, ∀p,x.2.2=some p->∃y∈P,y.1=p
 len:P.length<=8
theorem oC {α β:Type} {f:α->β}: ∀{l:List α},(l.map f).Nodup->∀a∈l, ∀b∈l,f a=f b->a=b
 | [],_,a,ha,_,_,_=>by cases ha
 |x::l,nd,a,ha,b,hb,e=>by
  have nd:(f x::l.map f).Nodup:=nd;obtain ⟨n1,n2⟩:=bj.mp nd;rcases aB.mp ha with q|q<;>rcases aB.mp hb with r|r
  ·rw [q,r]
  ·subst q;exact absurd (by rw [e];exact aj.mpr ⟨b,r,rfl⟩) n1
  ·subst r;exact absurd (by rw [<-e];exact aj.mpr ⟨a,q,rfl⟩) n1
  ·exact oC n2 a q b r e
theorem NF (P:List Dt):(uI P).Pairwise λa b=>a.1.1<=b.1.1:=by
 have:=sB P;rw [dw] at this;exact this
theorem DR {P P':List Dt} (ok:xx P) (hp:P.Perm P') (hs:(P'.map nE).Pairwise λa b=>rowLess b a=false):P'=uI P:=by
 have h1:P'.Pairwise λa b=>a.1.1<=b.1.1:=by
  rw [dw] at hs;refine hs.imp λ{a b} h=>?_;unfold nE at h;rw [Bool.eq_false_iff] at h;refine Decidable.byContradiction λz=>h (df.mpr (.inl ?_));omega
 refine (hp.symm.trans (kN P).symm).eq_of_pairwise (le:=λa b:Dt=>a.1.1<=b.1.1) (λa b ha hb l1 l2=>?_) h1 (NF P);exact oC ok.nd a (hp.mem_iff.mpr ha) b (hp.mem_iff.mpr (by
  have:=(kN P).mem_iff.mp hb;exact hp.mem_iff.mp this)) (by omega)
theorem xx.perm {P P':List Dt} (ok:xx P) (hp:P.Perm P'):xx P':=
 ⟨(hp.map _).nodup_iff.mp ok.nd,λx hx p e=>by
  obtain ⟨y,hy,e⟩:=ok.pt x (hp.mem_iff.mpr hx) p e;exact ⟨y,hp.mem_iff.mp hy,e⟩,by rw [<-hp.length_eq];exact ok.len⟩
theorem D3 {Q:List Dt} (ok:xx Q) {i:Nat} {y:Dt} (h:Q[i]?=some y):placeIn (Q.map (·.1)) y.1=(i:Int)+1:=by
 have e:(Q.map (·.1)).findIdx? (λx=>x==y.1)=some i:=by
  rw [List.findIdx?_eq_some_iff_getElem];obtain ⟨hi,hy⟩:=aJ.mp h;refine ⟨by rw [ab];exact hi,by simp [hy],λk hk=>?_⟩;have Z7:k<Q.length:=by omega
  intro z;have z:Q[k].1=y.1:=by simpa using z
  have e1:=oC ok.nd Q[k] (uv Z7) y (by rw [<-hy];exact uv hi) (by rw [z]);have Rq:Q.Nodup:=by
   have:=ok.nd;exact ij this
  have:=(sY Z7 Rq (j:=i)).mp (by rw [ao Z7,h,e1]);omega
 unfold placeIn;rw [e]
inductive CF (vs:List V) (H:Hp) (Q:VK):Prop
 |mk (lp:Addr) (ps:List Addr) (P:List Dt):vs= [.ref lp]->H lp=some (.lst (ps.map V.ref))->bQ (λp x=>H p=some (.tup ((nE x).map V.int))) ps P->xx P->(∀(H':Hp) (l:Addr),aD H H'->H l=none->H' l=some (.lst ((Nm (uI P)).map V.int))->Q (.ref l) H')->CF vs H Q
def Ff:Sp:=λvs H Q _=>CF vs H Q
def Nn (Q:List Dt) (x:Dt):List Int:= [(x.1.2:Int),x.2.1,Jg (Q.map (·.1)) x.2.2]
structure IW (Q:List Dt) (m:Nat) (kvs:List (Key×V)):Prop where
 zero:cr kvs (az (-1))=some (.int 0)
 at_: ∀(i:Nat) (x:Dt),i<m->Q[i]?=some x->cr kvs (az (x.1.1:Int))=some (.int ((i:Int)+1))
 len:kvs.length<=m+1
theorem IW.put {Q:List Dt} {m:Nat} {kvs:List (Key×V)} (h:IW Q m kvs) (ok:xx Q) {x:Dt} (hx:Q[m]?=some x):IW Q (m+1) (putK kvs (az (x.1.1:Int)) (.int ((m:Int)+1))):=by
 refine ⟨?_,λi y hi hy=>?_,?_⟩
 ·rw [uA,if_neg (λe=>by have:=cU e;omega)];exact h.zero
 ·rw [uA];by_cases e:i=m
  ·subst e;rw [hx] at hy;cases hy;rw [if_pos rfl]
  ·rw [if_neg (λz=>e ?_)]
   ·exact h.at_ i y (by omega) hy
   ·have z:=cU z;have z:y.1.1=x.1.1:=by omega
    have e1:=oC ok.nd y (aH hy) x (aH hx) z;have Rq:Q.Nodup:=ij ok.nd;exact (sY (aJ.mp hy).1 Rq (j:=m)).mp (by rw [hy,hx,e1])
 ·have:=j7 kvs (az (x.1.1:Int)) (.int ((m:Int)+1));have:=h.len;omega
theorem IW.get {Q:List Dt} {kvs:List (Key×V)} (h:IW Q Q.length kvs) (ok:xx Q) {x:Dt} (hx:x∈Q):cr kvs (az ((nE x).getD 3 0))=some (.int (Jg (Q.map (·.1)) x.2.2)):=by
 cases e:x.2.2 with
 |none=>
  have:(nE x).getD 3 0= -1:=by unfold nE;rw [e];rfl
  rw [this];exact h.zero
 |some p=>
  obtain ⟨y,hy,ey⟩:=ok.pt x hx p e;obtain ⟨i,hi⟩:=dE.mp hy;have:(nE x).getD 3 0=(y.1.1:Int):=by unfold nE;rw [e,ey];rfl
  rw [this,h.at_ i y (aJ.mp hi).1 hi];show _=some (V.int (placeIn (Q.map (·.1)) p));rw [<-ey,D3 ok hi]
section
theorem jB:ba ["parts","in_order","places","place","part","row"] ["parts"] (aM (top 96)):=fi
theorem Lr (D:Dn K mg "write_threes" (top 96) ["parts"]) (b:Bl mg) (c:Cs mg):Fn P w K mg base "write_threes" 1 ["parts"] Ff:=by
 refine D.go jB λf db A outer s H vs Q E hr h=>?_
 ·intro Xc;obtain ⟨lp,ps,P,rfl,hl,gE,ok,q⟩:=h;have hu:=jH hr;refine ⟨_,(am (st 1 jB.nd (dU wc rfl b.sorted jy (ae (pv 0) ax)))
   (am (st 2 jB.nd (N7 (Kk (kj c.wq) aF N3) rfl rfl (by simp) (by decide)))
   (am (dk PassesOwn.never rfl (Bq rfl b.enumerate (pv 1)) (km rfl (cF (gn 3 jB.nd) (cF (gn 4 jB.nd) gX)))
    (aA (lR hu (pv 2) (bf cI (pv 4) aF (λ_ _=>rfl)) (pv 3) rfl)))
   (am (st 5 jB.nd (bJ ax))
   (am (dk PassesOwn.never rfl (cC (pv 1)) (gn 4 jB.nd)
    (aA (eD (EL (pv 5) (bJ (ae (bX fD (bf cI (pv 4) aF (λ_ _=>rfl)) aF) (ae (bf cI (pv 4) aF (λ_ _=>rfl)) (ae (oy hu (pv 2) (bf cI (pv 4) aF (λ_ _=>rfl)) (λ_ _=>rfl)) ax))))))))
   (aA (aX (pv 5)))))))),?_⟩
  refine NK ?_
  intros
  refine ⟨_,rfl,lp,ps,rfl, .of hl,λp hp=>?_,λqs lq ml sI Xy=>?_⟩
  ·obtain ⟨k,hk⟩:=dE.mp hp;obtain ⟨x,_,e⟩:=gE.get' hk;exact ⟨nE x,by unfold nE;simp,e⟩
  obtain ⟨P',R8,mS⟩:=bQ.perm ml.symm gE;have O0:qs.map (rowAt H)=P'.map nE:=by
   refine MT λi=>?_;rw [bp,bp];cases e:qs[i]? with
   |none=>
    have:P'[i]?=none:=by rw [kI] at e⊢;rw [<-mS.1];exact e
    rw [this];rfl
   |some p=>
    obtain ⟨x,hx,hh⟩:=mS.get' e;rw [hx,cY,cY,u6 hh]
  rw [O0] at sI;have eP:=DR ok R8 sI;rw [<-eP] at q;have Xj:=ok.perm R8;clear eP sI O0 gE ml ok R8;have s1:aD H (upd H lq (.lst (qs.map V.ref))):=aD.new Xy;intro d hd;refine ⟨ak,[(az (-1), .int 0)],rfl,by decide,?_⟩;have nd:H d=none:=s1.free hd;have Rq:lq≠d:=λe=>by rw [<-e,ak] at hd;cases hd
  have s2:aD H (upd (upd (upd H lq (.lst (qs.map V.ref))) d (.dK [])) d (.dK (lU [] [(az (-1), .int 0)]))):=aD.put (aD.put s1 nd) nd;have ZO:(upd (upd (upd H lq (.lst (qs.map V.ref))) d (.dK [])) d (.dK (lU [] [(az (-1), .int 0)]))) lq=some (.lst (qs.map V.ref)):=bm (bm ak Rq) Rq;have hd2:(upd (upd (upd H lq (.lst (qs.map V.ref))) d (.dK [])) d (.dK (lU [] [(az (-1), .int 0)]))) d=some (.dK [(az (-1), .int 0)]):=by rw [ak];rfl
  generalize (upd (upd (upd H lq (.lst (qs.map V.ref))) d (.dK [])) d (.dK (lU [] [(az (-1), .int 0)])))=H2 at s2 ZO hd2;refine ⟨_,rfl,lq,_,rfl, .of ZO,l5 (n:=P'.length) (λm σ H'=>(∃v3 v4 v5,σ= [some (.ref lp),some (.ref lq),some (.ref d),v3,v4,v5])/\aD H H'/\H' lq=some (.lst (qs.map V.ref))/\∃kvs,H' d=some (.dK kvs)/\IW P' m kvs)
   ⟨⟨_,_,_,rfl⟩,s2,ZO,_,hd2,rfl,λi x hi=>absurd hi (dZ _),ay _⟩ (λm σ H' hm zz=>?_) (λσ H' zz=>⟨_, .of zz.2.2.1,by rw [ab,mS.1];exact ay _⟩) ?_ ?_⟩
  ·obtain ⟨p,hp⟩: ∃p,qs[m]?=some p:=⟨_,ao (by rw [mS.1];exact hm)⟩
   exact ⟨_,_, .of zz.2.2.1,cg hp⟩
  ·rintro _ _ _ m σ H3 y H3' hm ⟨⟨v3,v4,v5,rfl⟩,s3,Tq,kvs,XD,pl⟩ ⟨T,z,rfl,hT,rfl,hz⟩;obtain ⟨p,hp,rfl⟩:=b0 (hz _ (.of Tq));obtain ⟨x,hx,tp⟩:=mS.get' hp;refine ⟨T,_,rfl, .of ak,rfl,_,_,rfl,_,_,rfl,rfl,?_⟩;have s4:aD H3 (upd H3 T (.tup [.int ((m:Int)+1), .ref p])):=aD.new hT;have V7:=s4 _ _ XD;refine ⟨_,rfl,_,rfl,_,rfl,p,_,0,_,rfl,rfl, .of (s4 _ _ (s3 _ _ tp)),at_of (j:=0) rfl rfl,d,_,rfl,nX.k (k:=az (x.1.1:Int)) V7 ?_,⟨_,_,_,rfl⟩,aD.put (s3.trans s4) nd,bm (s4 _ _ Tq) Rq,_,ak,pl.put Xj hx⟩;have:=pl.len;have:=Xj.len;have:sizeLine=16777216:=af5;omega
  ·rintro σ H3 ⟨⟨v3,v4,v5,rfl⟩,s3,Tq,kvs,XD,pl⟩;refine ⟨bw _,λlr RW=>?_⟩;have Tb:H lr=none:=s3.free RW;have ndr:d≠lr:=aG XD RW;have Zb:lq≠lr:=aG Tq RW;refine ⟨_,rfl,lq,rfl,⟨_, .of (bm Tq Zb)⟩,eQ (K:=K) (a:=lq) (xs:=qs.map V.ref) (λm σ H'=>(∃v3 v4,σ= [some (.ref lp),some (.ref lq),some (.ref d),v3,v4,some (.ref lr)])/\aD H H'/\H' lq=some (.lst (qs.map V.ref))/\H' d=some (.dK kvs)/\H' lr=some (.lst (((P'.take m).flatMap (Nn P')).map V.int)))
    ⟨⟨_,_,rfl⟩,aD.put s3 Tb,bm Tq Zb,bm XD ndr,ak⟩ (λm σ H' _ zz=> .of zz.2.2.1) ?_ ?_⟩
   ·rintro _ _ _ m y σ H4 hy ⟨⟨v3,v4,rfl⟩,s4,hq4,V7,M4⟩;obtain ⟨p,hp,rfl⟩:=b0 hy;obtain ⟨x,hx,tp⟩:=mS.get' hp;have T1:=s4 _ _ tp;refine ⟨_,rfl, .inl ⟨rfl,_, .of M4⟩,_,rfl,p,_,1,_,rfl,rfl, .of T1,at_of (j:=1) rfl rfl,_,_,rfl,rfl,_,rfl,p,_,2,_,rfl,rfl, .of T1,at_of (j:=2) rfl rfl,_,rfl,_,rfl,p,_,3,_,rfl,rfl, .of T1,at_of (j:=3) rfl rfl,d,_,rfl, .inl ⟨kvs,az ((nE x).getD 3 0), .inl V7,rfl,(pl.get Xj (aH hx)).symm⟩,(by show 3<=sizeLine;decide),λl3 XA=>?_⟩;have n3:lr≠l3:=aG M4 XA;refine ⟨lr,l3,_,_,rfl,rfl,bm M4 n3,ak,?_,⟨_,_,rfl⟩,aD.put (s4.trans (aD.new XA)) Tb,vH hq4 XA Zb,vH V7 XA ndr,?_⟩
    ·rw [ab];have:=gN (f:=Nn P') (k:=3) (l:=P'.take m) λa _=>ay _;rw [bc] at this;have:=Xj.len;have e3:([V.int ((x.1.2:Int)-1+1), .int x.2.1, .int (Jg (P'.map (·.1)) x.2.2)]:List V).length=3:=rfl;have:sizeLine=16777216:=af5;show ((P'.take m).flatMap (Nn P')).length+3<=sizeLine;omega
    ·rw [ak,di hx,cc,aP];have e4:(x.1.2:Int)-1+1=x.1.2:=by omega
     show some (HO.lst (_++ [V.int ((x.1.2:Int)-1+1), .int x.2.1, .int (Jg (P'.map (·.1)) x.2.2)]))=_;rw [e4];simp [Nn]
   ·rintro σ H4 ⟨⟨v3,v4,rfl⟩,s4,hq4,V7,M4⟩;rw [ab,mS.1,bo] at M4;exact ⟨_,rfl,q H4 lr s4 Tb M4⟩
end
end Lf
namespace Lf
open Vbahaf (rowLess least)
section
variable {X:Cx} {e f:af0} {te tf:TE} {pos:Pos}
theorem aaI (K:aa) (hu:X.A.units+64<af7) (ha:PE X e te) (hb:PE X f tf) (hm:agr .Eq f=false) (hK:X.K=K:=by rfl):PT X (.Compare e [.Eq] [f] pos) (Pu (QP (UR K) te tf)):=hK▸cB (Rl hu) ha hb hm
end
def XS:Option (List Int)->ago
 |none=> .none
 |some r=> .tuple (r.map .int)
theorem Gd {K:aa} {H:Hp}: ∀r:List Int,wB K H (r.map V.int) (r.map .int)
 | []=> .nil
 |a::r=> .cons (.int a) (Gd r)
theorem pS.dp {K:aa} {H:Hp} {v:V} {o:Option (List Int)} (h:pS H v o):Dp K H v (XS o):=by
 cases o with
 |none=>
  have h:v= .fE:=h;subst h;exact .fE
 |some r=>
  obtain ⟨p,rfl,tp⟩:=h;exact .tup (.of tp) (Gd r)
def SO (o:Option (List Int)):Prop:= ∀r,o=some r->∃a b,r= [a,b]
theorem wb {o:Option (List Int)} (h:SO o):SeqAt.shaped (XS o)=true:=by
 cases o with
 |none=>rfl
 |some r=>
  obtain ⟨a,b,rfl⟩:=h r rfl;rfl
theorem Cf: ∀r t:List Int,PyData.eqvAll (r.map .int) (t.map .int)=decide (r=t)
 | [],[]=>rfl
 | [],_::_=>rfl
 |_::_,[]=>rfl
 |a::r,b::t=>by
  show (a==b&&PyData.eqvAll (r.map .int) (t.map .int))=_;rw [Cf r t,bC];simp
theorem O1 (o o':Option (List Int)):PyData.eqv (XS o) (XS o')=decide (o=o'):=by
 cases o with
 |none=>cases o'<;>rfl
 |some r=>
  cases o' with
  |none=>rfl
  |some t=>
   show PyData.eqvAll (r.map .int) (t.map .int)=_;rw [Cf,decide_eq_decide];simp
theorem Nq {o:Option (List Int)} (h:SO o) (p c:Int):SO (o.map (jM p c)):=by
 intro r e;cases o with
 |none=>cases e
 |some t=>
  obtain ⟨a,b,rfl⟩:=h t rfl;cases e;exact ⟨_,_,rfl⟩
inductive Qx (K:aa) (vs:List V) (H:Hp) (Q:VK):Prop
 |mk (H0 Hc:Hp) (s:ag) (j:ai) (af:Int) (l la:Addr) (L:List Un) (m:Nat) (al:Bool):vs= [.ref l, .ref la, .int m]->iI K H0 Hc s j af l L->aD Hc H->L.length<10000->jQ s j af al (cZ s j af L)->iG H la (iH s j af L) (2^j.segs.length)->m≠0->m<2^j.segs.length->(∀(H':Hp) (r:Addr),aD H H'->H r=none->GO K Hc H' s j af r (FW (cZ s j af L) d4 (pd s j af) cn m)->Q (.ref r) H')->Qx K vs H Q
def Uw (K:aa):Sp:=λvs H Q _=>Qx K vs H Q
section
theorem J0:ba ["choices","sums","mask","choice"] ["choices","sums","mask"] (aM (top 95)):=fi
theorem Wp (D:Dn K mg "least_choices" (top 95) ["choices","sums","mask"]) (G1:Fn P w K mg base "choices_within" 2 ["choices","mask"] (qm K)) (G2:Fn P w K mg base "sum_with" 1 ["choice","sums","mask"] (rD K)):
  Fn P w K mg base "least_choices" 3 ["choices","sums","mask"] (Uw K):=by
 refine D.go J0 λf db A outer s H vs Q E hr h=>?_
 ·intro Xc;obtain ⟨H0,Hc,s,j,af,l,la,L,m,al,rfl,hC,Nb,hL,hI,hS,hm,RT,q⟩:=h;refine ⟨_,(aA (aX (ir rfl J0.nd (cC (pc G1 hr (ae (pv 0) (ae (pv 2) ax)))) (cT (own:= [("choice",3)]) (by kernel_rfl))
    (λ_ _ _ _ _=>(gn 3 J0.nd)) (λ_ _ _ _ _=>(ox (aaI K hr.units (pc G2 hr (ae (pv 3) (ae (pv 1) (ae (pv 2) ax)))) (Ml K (pv 1) (pv 2)) (bS _))))
    (λ_ _ _ _ _=>(pv 3))))),?_⟩
  refine ⟨_,rfl,_,rfl,H0,Hc,s,j,af,l,L,m,rfl,hC,Nb,hL,hm,RT,λH1 r s1 nr Ay=>?_⟩;obtain ⟨lH,xl,nv⟩:=Ay;refine ⟨r,rfl,⟨_, .of xl⟩,λD hD=>fG (K:=K) (a:=r) (xs:=lH.map V.ref) (λn H'=>aD H1 H'/\∃qs:List Addr,H' D=some (.lst (qs.map V.ref))/\bQ (eh K Hc (λ_=>False) s j af) qs (((ji (cZ s j af L) d4 m).take n).filter λu=>decide ((iH s j af L (m-d4 u)).map (jM (pd s j af u) (cn u))=iH s j af L m))) ⟨aD.new hD,[],ak,bQ.nil⟩ (λn H' _ zz=> .of (zz.1 _ _ xl)) ?_ ?_⟩
  ·rintro _ _ _ _ n x H2 hx ⟨s2,qs,hq,mS⟩;obtain ⟨ca,rl,rfl⟩:=b0 hx;obtain ⟨u,hu,cat⟩:=nv.get' rl;have M0:=aH hu;have ig:=s1.trans s2;refine ⟨rfl,_,rfl,_,rfl,_,rfl,ca,la,u,_,2^j.segs.length,m,s,j,af,_,rfl,cat.mono (Nb.trans ig),hS.mono ig,pk s j af L,qd M0,n8 (qe hI.ok M0) RT,λH3 v s3 hv=>?_⟩;obtain ⟨xs,Ji,qH,P2⟩:=hS.mono (ig.trans s3);obtain ⟨y,hy⟩: ∃y,xs[m]?=some y:=⟨_,ao (by rw [qH];exact RT)⟩
   have sy:=P2 m y hy;refine ⟨_,rfl,_,rfl,la,_,_,_,rfl,rfl, .of Ji,at_of (j:=m) rfl hy,_,_,hv.dp,sy.dp,wb (Nq (λr e=>pk s j af L _ _ e) _ _),wb (λr e=>pk s j af L _ _ e),_,rfl,?_⟩;rw [O1];refine ip (λe1=>?_) (λe1=>?_)
   ·refine ⟨_,rfl,qs.map V.ref,s3 _ _ hq,?_,aD.put (s2.trans s3) hD,qs++ [ca],by rw [ak,dP],?_⟩
    ·rw [ab,mS.1];have g1:=aO (λu=>decide ((iH s j af L (m-d4 u)).map (jM (pd s j af u) (cn u))=iH s j af L m)) ((ji (cZ s j af L) d4 m).take n);have g2:((ji (cZ s j af L) d4 m).take n).length<=L.length:=by
      rw [bc];exact aV (dj _ _) (aV (aO _ _) (aO _ _))
     have:sizeLine=16777216:=af5;omega
    ·rw [di hu,cD,br,e1];exact mS.snoc cat
   ·exact ⟨s2.trans s3,qs,s3 _ _ hq,by rw [di hu,cD,br,e1];simpa using mS⟩
  ·rintro H2 ⟨s2,qs,hq,mS⟩;rw [ab,nv.1,bo] at mS;exact q H2 D (s1.trans s2) (s1.free hD) ⟨qs,hq,mS⟩
end
end Lf
namespace Lf
open Vbahaf (rowLess least)
theorem Jw {n:Nat} (h:n<=8):(tj n).length<=6000:=by
 have key: ∀n,n<9->(tj n).length<=6000:=by decide+kernel
 exact key n (by omega)
section
variable {s:ag} {j:ai} {af:Int} {L:List Un} {al:Bool}
def qO (s:ag) (j:ai) (af:Int) (L:List Un) (m:Nat):List (List Un):=Op (cZ s j af L) d4 (pd s j af) cn m
def xo (s:ag) (j:ai) (af:Int) (L:List Un) (w:Nat×List Un):List (List Int):=(qO s j af L w.1).map λl=>pz s j af (w.2++l)
def vb (m:Nat) (us:List Un) (u:Un):Nat×List Un:=(m-d4 u,us++ [u])
theorem Mx (I:jQ s j af al (cZ s j af L)) (h8:j.segs.length<=8):(qO s j af L (2^j.segs.length-1)).length<=6000:=by
 have hp:0<2^j.segs.length:=eV _;have h1:(qO s j af L (2^j.segs.length-1)).length<=(T (cZ s j af L) d4 (2^j.segs.length-1)).length:=aO _ _;have h2:=(pq I.ok (n:=j.segs.length) (k:=2^j.segs.length-1+1) h8 (by omega)).length_eq;have h3:=aO (λus:List Un=>us.all λu=>decide (u∈cZ s j af L u.1.1)) (tj j.segs.length);have h4:=Jw h8;unfold T at h1;omega
theorem pU (I:jQ s j af al (cZ s j af L)) (h8:j.segs.length<=8) {us:List Un} (h:us∈qO s j af L (2^j.segs.length-1)):Tiled (zl 0 j.segs.length) us:=by
 have hp:0<2^j.segs.length:=eV _;have h1:=(au.mp h).1;have h2:=(pq I.ok (n:=j.segs.length) (k:=2^j.segs.length-1+1) h8 (by omega)).mem_iff.mp h1;exact (qC h8).mp (au.mp h2).1
theorem sF: ∀{l:List Nat} {n:Nat},l.Pairwise (λa b=>a<b)->(∀a∈l,a<n)->∀k,(∀a∈l,k<=a)->k<=n->l.length<=n-k
 | [],_,_,_,_,_,_=>bw _
 |a::l,n,hs,hn,k,hk,h=>by
  obtain ⟨h1,h2⟩:=dg.mp hs;have ha:=hn a aN;have hka:=hk a aN;have:=sF h2 (λb hb=>hn b (aE _ hb)) (a+1) (λb hb=>h1 b hb) ha;rw [aS];omega
theorem uF {us:List Un} (t:Tiled (zl 0 j.segs.length) us) (h8:j.segs.length<=8):xx (us.flatMap (jV s j af)):=by
 obtain ⟨cs,c,p⟩:=t.Bw;have ml:((us.flatMap (jV s j af)).map (·.1)).Perm cs:=by rw [rJ];exact p.perm
 have e:((us.flatMap (jV s j af)).map λx=>x.1.1)=((us.flatMap (jV s j af)).map (·.1)).map (·.1):=by rw [bi];rfl
 have hs:(cs.map (·.1)).Pairwise (λa b=>a<b):=by rw [dw];exact c.sorted
 refine ⟨?_,?_,?_⟩
 ·rw [e];refine (ml.map _).nodup_iff.mpr ?_;exact hs.imp λ{a b} h=>bH h
 ·intro x hx q e;obtain ⟨u,hu,hx⟩:=aW.mp hx;unfold jV at hx;cases e2:u.2 with
  |none=>
   rw [e2] at hx;have:=aR.mp hx;subst this;cases e
  |some r=>
   rw [e2] at hx;rcases aB.mp hx with rfl|hx
   ·cases e;exact ⟨(q,k2 s j af u,some u.1),aW.mpr ⟨u,hu,by unfold jV;rw [e2];simp⟩,rfl⟩
   ·have:=aR.mp hx;subst this;cases e;exact ⟨(u.1,k1 s j af u,some r),aW.mpr ⟨u,hu,by unfold jV;rw [e2];simp⟩,rfl⟩
 ·have hl:(us.flatMap (jV s j af)).length=(cs.map (·.1)).length:=by
   have:=ml.length_eq;rw [ab] at this;rw [ab,this]
  have i4: ∀a∈cs.map (·.1),a<j.segs.length:=by
   intro a ha;have K4:=(ml.map (λc:cP=>c.1)).mem_iff.mpr ha;rw [<-e] at K4;obtain ⟨x,hx,rfl⟩:=aj.mp K4;obtain ⟨u,hu,hx⟩:=aW.mp hx;obtain ⟨h1,h2⟩:=fh t hu;unfold jV at hx;unfold tm at h2;cases e2:u.2 with
   |none=>
    rw [e2] at hx h2;have:=aR.mp hx;subst this;have:=h1.1;simp only at h2⊢;omega
   |some r=>
    rw [e2] at hx h2;have h3:=h1.2 r e2;have h4:=h1.1;simp only at h2;rcases aB.mp hx with rfl|hx
    ·simp only;omega
    ·have:=aR.mp hx;subst this;simp only;omega
  have:=sF hs i4 0 (λ_ _=>bw _) (bw _);omega
structure Cy (s:ag) (j:ai) (af:Int) (L:List Un) (rs:List (List Int)) (ws:List (Nat×List Un)):Prop where
 perm:(rs++ws.flatMap (xo s j af L)).Perm ((qO s j af L (2^j.segs.length-1)).map (pz s j af))
 lt: ∀w∈ws,w.1<2^j.segs.length
 sm: ∀w∈ws, ∃r,iH s j af L w.1=some r
 full: ∀w∈ws, ∀l∈qO s j af L w.1,w.2++l∈qO s j af L (2^j.segs.length-1)
theorem Cy.start {r:List Int} (h:iH s j af L (2^j.segs.length-1)=some r):Cy s j af L [] [(2^j.segs.length-1,[])]:=by
 have hp:0<2^j.segs.length:=eV _;refine ⟨?_,λw hw=>?_,λw hw=>?_,λw hw l hl=>?_⟩
 ·unfold xo;simp
 all_goals
  have:=aR.mp hw;subst this
 ·simp only;omega
 ·exact ⟨r,h⟩
 ·exact hl
theorem Cy.len (W:Cy s j af L rs ws) (I:jQ s j af al (cZ s j af L)) (h8:j.segs.length<=8):rs.length+ws.length<=6000:=by
 have h1:=W.perm.length_eq;rw [aK,ab] at h1;have h2:=Mx I h8;have h3: ∀{ws:List (Nat×List Un)},(∀w∈ws, ∃r,iH s j af L w.1=some r)->ws.length<=(ws.flatMap (xo s j af L)).length:=by
  intro ws;induction ws with
  |nil=>intro _;exact bw _
  |cons w ws ih=>
   intro h;have:=ih λx hx=>h x (aE _ hx);obtain ⟨r,hr⟩:=h w aN;have fZ:0<(xo s j af L w).length:=by
    unfold xo;rw [ab];exact jT.mpr (Gw hr)
   rw [bB,aK,aS];omega
 have:=h3 W.sm;omega
theorem Mb (us:List Un):xo s j af L (0,us)= [pz s j af us]:=by
 unfold xo qO;rw [Gu];simp
theorem Cy.row {rs:List (List Int)} {ws:List (Nat×List Un)} {us:List Un} (W:Cy s j af L rs (ws++ [(0,us)])):Cy s j af L (rs++ [pz s j af us]) ws:=by
 refine ⟨?_,λw hw=>W.lt w (cR _ hw),λw hw=>W.sm w (cR _ hw),λw hw=>W.full w (cR _ hw)⟩;have h:=W.perm;rw [cc,bB,uw,Mb] at h;refine iZ ?_ h;rw [dc,cp];exact List.Perm.append_left _ oR
theorem Cy.okp {rs:List (List Int)} {ws:List (Nat×List Un)} {us:List Un} (W:Cy s j af L rs (ws++ [(0,us)])) (I:jQ s j af al (cZ s j af L)) (h8:j.segs.length<=8):xx (us.flatMap (jV s j af)):=by
 have:=W.full (0,us) (by simp) [] (by unfold qO;rw [Gu];simp);rw [dc] at this;exact uF (pU I h8 this) h8
theorem Mc (I:jQ s j af al (cZ s j af L)) {m:Nat} (h:m≠0) (us:List Un):xo s j af L (m,us)=((FW (cZ s j af L) d4 (pd s j af) cn m).map (vb m us)).flatMap (xo s j af L):=by
 unfold xo qO;show (Op (cZ s j af L) d4 (pd s j af) cn m).map _=_;rw [Gv I.ok h,uu,ux];refine cO λu _=>?_;rw [bi];show _=(Op (cZ s j af L) d4 (pd s j af) cn (m-d4 u)).map λl=>pz s j af ((us++ [u])++l);refine bO λl _=>?_;show pz s j af (us++u::l)=_;rw [cp];rfl
theorem Cy.push {rs:List (List Int)} {ws:List (Nat×List Un)} {m:Nat} {us:List Un} (W:Cy s j af L rs (ws++ [(m,us)])) (I:jQ s j af al (cZ s j af L)) (h:m≠0):Cy s j af L rs (ws++(FW (cZ s j af L) d4 (pd s j af) cn m).map (vb m us)):=by
 have hm:=W.lt (m,us) (by simp);obtain ⟨r,hr⟩:=W.sm (m,us) (by simp);refine ⟨?_,λw hw=>?_,λw hw=>?_,λw hw l hl=>?_⟩
 ·have h1:=W.perm;rw [cc,bB,uw,dc,Mc I h] at h1;rw [cc];exact h1
 all_goals rcases bF.mp hw with hw|hw
 ·exact W.lt w (cR _ hw)
 ·obtain ⟨u,hu,rfl⟩:=aj.mp hw;exact cu (Nat.sub_le _ _) hm
 ·exact W.sm w (cR _ hw)
 ·obtain ⟨u,hu,rfl⟩:=aj.mp hw;exact KN hr hu
 ·exact W.full w (cR _ hw) l hl
 ·obtain ⟨u,hu,rfl⟩:=aj.mp hw;have:=W.full (m,us) (by simp) (u::l) (by
   unfold qO;rw [Gv I.ok h];exact aW.mpr ⟨u,hu,aj.mpr ⟨l,hl,rfl⟩⟩)
  show (us++ [u])++l∈_;rw [cp];exact this
def je (ws:List (Nat×List Un)):Nat:=(ws.map λw=>10001^w.1).sum
theorem lW (a b:List (Nat×List Un)):je (a++b)=je a+je b:=by unfold je;rw [aP,Pr]
theorem x8 (w:Nat×List Un):je [w]=10001^w.1:=by unfold je;simp
theorem KL (ws:List (Nat×List Un)) (us:List Un):je ws<je (ws++ [(0,us)]):=by
 rw [lW,x8];show _<_+10001^0;omega
theorem QX {l:List Nat} {k:Nat} (h: ∀x∈l,x<=k):l.sum<=l.length*k:=by
 induction l with
 |nil=>simp
 |cons a l ih=>
  have:=ih λx hx=>h x (aE _ hx);have:=h a aN;rw [fe,aS,tS];omega
theorem HL (I:jQ s j af al (cZ s j af L)) (hL:L.length<10000) (ws:List (Nat×List Un)) {m:Nat} (us:List Un) (h:m≠0):je (ws++(FW (cZ s j af L) d4 (pd s j af) cn m).map (vb m us))<je (ws++ [(m,us)]):=by
 rw [lW,lW,x8];have h1:je ((FW (cZ s j af L) d4 (pd s j af) cn m).map (vb m us))<=(FW (cZ s j af L) d4 (pd s j af) cn m).length*10001^(m-1):=by
  unfold je;have:=QX (l:=(((FW (cZ s j af L) d4 (pd s j af) cn m).map (vb m us)).map λw=>10001^w.1)) (k:=10001^(m-1)) (λx hx=>by
   obtain ⟨w,hw,rfl⟩:=aj.mp hx;obtain ⟨u,hu,rfl⟩:=aj.mp hw;have:=qe I.ok (au.mp hu).1;exact dS (by decide) (by show m-d4 u<=m-1;omega))
  rw [ab,ab] at this;exact this
 have h2:(FW (cZ s j af L) d4 (pd s j af) cn m).length<=L.length:=aV (aO _ _) (aV (aO _ _) (aO _ _));have h3:10001^m=10001^(m-1)*10001:=by rw [<-W5];congr 1;omega
 have h4:(FW (cZ s j af L) d4 (pd s j af) cn m).length*10001^(m-1)<=10000*10001^(m-1):=Jd _ (by omega);have h5:0<10001^(m-1):=Nat.pow_pos (by decide);show _<je ws+10001^m;rw [h3];omega
end
end Lf
namespace Lf
open Vbahaf (rowLess least)
theorem Bb: ∀{a b:List Addr},a.map V.ref=b.map V.ref->a=b
 | [],[],_=>rfl
 | [],_::_,h=>by simp at h
 |_::_,[],h=>by simp at h
 |x::a,y::b,h=>by
  simp only [bb,eJ] at h;obtain ⟨h1,h2⟩:=h;rw [Bb h2];cases h1;rfl
theorem Cy.short {s:ag} {j:ai} {af:Int} {L:List Un} {al:Bool} {rs:List (List Int)} {ws:List (Nat×List Un)} (W:Cy s j af L rs ws) (I:jQ s j af al (cZ s j af L)) (h8:j.segs.length<=8) {m:Nat} {us:List Un} (h:(m,us)∈ws):(us.flatMap (jV s j af)).length<=8:=by
 obtain ⟨r,hr⟩:=W.sm _ h;obtain ⟨l,hl⟩: ∃l,l∈qO s j af L m:=List.exists_mem_of_ne_nil _ (Gw hr);have:=(uF (s:=s) (af:=af) (pU I h8 (W.full _ h l hl)) h8).len;rw [cc,aK] at this;exact aV (dN _ _) this
def Ent (s:ag) (j:ai) (af:Int) (H:Hp) (lr lw:Addr) (p:Addr) (w:Nat×List Un):Prop:= ∃(lp:Addr) (ps:List Addr),H p=some (.tup [.int (w.1:Int), .ref lp])/\lp≠lr/\lp≠lw/\H lp=some (.lst (ps.map V.ref))/\bQ (λp x=>H p=some (.tup ((nE x).map V.int))) ps (w.2.flatMap (jV s j af))
structure TR (s:ag) (j:ai) (af:Int) (H0 H:Hp) (lr lw:Addr) (rs:List (List Int)) (ws:List (Nat×List Un)):Prop where
 base:aD H0 H
 n1:H0 lr=none
 n2:H0 lw=none
 ne:lr≠lw
 rows: ∃Ax:List Addr,H lr=some (.lst (Ax.map V.ref))/\bQ (λp r=>p≠lr/\p≠lw/\H p=some (.lst (r.map V.int))) Ax rs
 wait: ∃pZ:List Addr,H lw=some (.lst (pZ.map V.ref))/\bQ (Ent s j af H lr lw) pZ ws
section
variable {s:ag} {j:ai} {af:Int} {H0 H H':Hp} {lr lw p:Addr} {rs:List (List Int)} {ws:List (Nat×List Un)} {w:Nat×List Un}
theorem Ent.mono (h:Ent s j af H lr lw p w) (e:aD H H'):Ent s j af H' lr lw p w:=by
 obtain ⟨lp,ps,h1,h2,h3,h4,h5⟩:=h;exact ⟨lp,ps,e _ _ h1,h2,h3,e _ _ h4,h5.mono λ_ _ z=>e _ _ z⟩
theorem Ent.put {a:Addr} {xs ys:List V} (h:Ent s j af H lr lw p w) (ha:a=lr∨a=lw) (hl:H a=some (.lst xs)):Ent s j af (upd H a (.lst ys)) lr lw p w:=by
 obtain ⟨lp,ps,h1,h2,h3,h4,h5⟩:=h;refine ⟨lp,ps,bm h1 (i8 h1 hl rfl),h2,h3,bm h4 ?_,h5.mono λ_ _ z=>bm z (i8 z hl rfl)⟩;rcases ha with rfl|rfl
 ·exact h2
 ·exact h3
theorem TR.mono (h:TR s j af H0 H lr lw rs ws) (e:aD H H'):TR s j af H0 H' lr lw rs ws:=by
 obtain ⟨b,n1,n2,ne,⟨Ax,r1,r2⟩,⟨pZ,w1,w2⟩⟩:=h;exact ⟨b.trans e,n1,n2,ne,⟨Ax,e _ _ r1,r2.mono λ_ _ z=>⟨z.1,z.2.1,e _ _ z.2.2⟩⟩,⟨pZ,e _ _ w1,w2.mono λ_ _ z=>z.mono e⟩⟩
theorem TR.last (h:TR s j af H0 H lr lw rs (ws++ [w])): ∃(pZ:List Addr) (p:Addr),H lw=some (.lst ((pZ++ [p]).map V.ref))/\Ent s j af H lr lw p w/\TR s j af H0 (upd H lw (.lst (pZ.map V.ref))) lr lw rs ws:=by
 obtain ⟨b,n1,n2,ne,⟨Ax,r1,r2⟩,⟨DA,w1,w2⟩⟩:=h;have hl:=w2.1;rw [aK,gd] at hl;have fZ:DA≠ []:=λe=>by rw [e] at hl;cases hl
 obtain ⟨pZ,p,rfl⟩: ∃pZ p,DA=pZ++ [p]:=⟨_,_,(jz fZ).symm⟩
 rw [aK,gd] at hl;refine ⟨pZ,p,w1,w2.2 ws.length p w (by rw [show ws.length=pZ.length by omega];simp) (by simp),aD.put b n2,n1,n2,ne,⟨Ax,bm r1 ne,r2.mono λ_ _ z=>⟨z.1,z.2.1,bm z.2.2 z.2.1⟩⟩,pZ,ak,by omega,λi a x ha hx=>?_⟩;have hi:=(aJ.mp ha).1;exact (w2.2 i a x (by rw [bV hi];exact ha) (by rw [bV (by omega)];exact hx)).put (.inr rfl) w1
theorem TR.push (h:TR s j af H0 H lr lw rs ws) (hp:Ent s j af H lr lw p w): ∃pZ:List Addr,H lw=some (.lst (pZ.map V.ref))/\pZ.length=ws.length/\TR s j af H0 (upd H lw (.lst (pZ.map V.ref++ [.ref p]))) lr lw rs (ws++ [w]):=by
 obtain ⟨b,n1,n2,ne,⟨Ax,r1,r2⟩,⟨pZ,w1,w2⟩⟩:=h;refine ⟨pZ,w1,w2.1,aD.put b n2,n1,n2,ne,⟨Ax,bm r1 ne,r2.mono λ_ _ z=>⟨z.1,z.2.1,bm z.2.2 z.2.1⟩⟩,pZ++ [p],by rw [ak,dP],?_⟩;exact (w2.mono λ_ _ z=>z.put (.inr rfl) w1).snoc (hp.put (.inr rfl) w1)
theorem TR.row {r:List Int} (h:TR s j af H0 H lr lw rs ws) (hp:H p=some (.lst (r.map V.int))) (h1:p≠lr) (h2:p≠lw): ∃Ax:List Addr,H lr=some (.lst (Ax.map V.ref))/\Ax.length=rs.length/\TR s j af H0 (upd H lr (.lst (Ax.map V.ref++ [.ref p]))) lr lw (rs++ [r]) ws:=by
 obtain ⟨b,n1,n2,ne,⟨Ax,r1,r2⟩,⟨pZ,w1,w2⟩⟩:=h;refine ⟨Ax,r1,r2.1,aD.put b n1,n1,n2,ne,⟨Ax++ [p],by rw [ak,dP],?_⟩,pZ,bm w1 ne.symm,w2.mono λ_ _ z=>z.put (.inl rfl) r1⟩;exact (r2.mono λ_ _ z=>⟨z.1,z.2.1,bm z.2.2 z.1⟩).snoc ⟨h1,h2,bm hp h1⟩
end
inductive MC (K:aa) (vs:List V) (H:Hp) (Q:VK):Prop
 |mk (H0:Hp) (s:ag) (j:ai) (af:Int) (l la:Addr) (L:List Un) (al:Bool) (r0:List Int):vs= [.ref l, .ref la]->iI K H0 H s j af l L->L.length<10000->jQ s j af al (cZ s j af L)->iG H la (iH s j af L) (2^j.segs.length)->j.segs.length<=8->iH s j af L (2^j.segs.length-1)=some r0->(∀(H':Hp) (r:Addr) (t:List Int),aD H H'->H' r=some (.lst (t.map V.int))->least ((qO s j af L (2^j.segs.length-1)).map (pz s j af))=some t->Q (.ref r) H')->MC K vs H Q
def Py (K:aa):Sp:=λvs H Q _=>MC K vs H Q
section
theorem pE:ba ["choices","sums","rows","waiting","state","mask","parts","choice"] ["choices","sums"] (aM (top 97)):=fi
theorem Sg (D:Dn K mg "least_threes" (top 97) ["choices","sums"]) (b:Bl mg) (G1:Fn P w K mg base "write_threes" 1 ["parts"] Ff) (G2:Fn P w K mg base "least_choices" 3 ["choices","sums","mask"] (Uw K)):
  Fn P w K mg base "least_threes" 4 ["choices","sums"] (Py K):=by
 refine D.go pE λf db A outer s H vs Q E hr h=>?_
 ·intro Xc;obtain ⟨H0,s,j,af,l,la,L,al,r0,rfl,hC,hL,hI,hS,h8,RR,q⟩:=h;obtain ⟨xs,Ji,qH,P2⟩:=id hS;have Ib:0<2^j.segs.length:=eV _;refine ⟨_,(am (st 2 pE.nd (bJ ax))
   (am (st 3 pE.nd (bJ (ae (fB (ae (bX fU (iV b.len (pv 1)) aF) (ae (bJ ax) ax))) ax)))
   (am (vc PassesOwn.never (Bj (pv 3) (λ_=>rfl))
    (am (st 4 pE.nd (Rg lD PySem.F.slot_list_pop PySem.F.type_list_pop Rr (pv 3)))
   (am (st 5 pE.nd (bf cI (pv 4) aF (λ_ _=>rfl)))
   (am (st 6 pE.nd (bf cI (pv 4) aF (λ_ _=>rfl)))
   (aA (cE (cB fV (pv 5) aF (bS _))
    (aA (eD (Cg (pv 2) (pc G1 hr (ae (pv 6) ax)))))
    (aA (dk PassesOwn.never rfl (cC (pc G2 hr (ae (pv 0) (ae (pv 1) (ae (pv 5) ax))))) (gn 7 pE.nd)
    (aA (eD (Cg (pv 3) (fB (ae (bX fU (pv 5) (aT (pv 7) rfl)) (ae (bX pJ (pv 6) (aT (pv 7) rfl)) ax))))))))))))))
   (aA (aX (dU (O7 rfl hr.units) rfl b.min hZ (ae (pv 2) ax))))))),?_⟩
  refine mL ?_
  intros
  refine ⟨bw _,λlr Tb=>?_⟩;have s1:aD H (upd H lr (.lst [])):=aD.new Tb;refine ⟨_,rfl,la,_,rfl, .inl (.of (s1 _ _ Ji)),_,_,rfl,rfl,bw _,λl0 Zf=>⟨(by show 2<=sizeLine;decide),λt0 Rm=>⟨(by show 1<=sizeLine;decide),λlw FR=>?_⟩⟩⟩;have em:((xs.length:Nat):Int)-1=((2^j.segs.length-1:Nat):Int):=by rw [qH];omega
  have T0:TR s j af H (upd (upd (upd (upd H lr (.lst [])) l0 (.lst [])) t0 (.tup [.int (((xs.length:Nat):Int)-1), .ref l0])) lw (.lst [.ref t0])) lr lw [] [(2^j.segs.length-1,[])]:=by
   have e1:lr≠l0:=λe=>by rw [<-e,ak] at Zf;cases Zf
   have h1:(upd (upd H lr (.lst [])) l0 (.lst [])) lr=some (.lst []):=bm ak e1;have s2:aD (upd H lr (.lst [])) (upd (upd H lr (.lst [])) l0 (.lst [])):=aD.new Zf;have s3:=aD.new (o:= .tup [.int (((xs.length:Nat):Int)-1), .ref l0]) Rm;have s4:=aD.new (o:= .lst [.ref t0]) FR;have h2:=s3 _ _ h1;have h3:=s3 l0 _ ak;have h4:(upd (upd (upd H lr (.lst [])) l0 (.lst [])) t0 (.tup [.int (((xs.length:Nat):Int)-1), .ref l0])) t0=some (.tup [.int (((xs.length:Nat):Int)-1), .ref l0]):=ak;refine ⟨((s1.trans s2).trans s3).trans s4,Tb,((s1.trans s2).trans s3).free FR,aG h2 FR,⟨[],s4 _ _ h2,bQ.nil⟩,[t0],ak,bQ.snoc bQ.nil ⟨l0,[],(by rw [<-em];exact s4 _ _ h4),e1.symm,aG h3 FR,s4 _ _ h3,bQ.nil⟩⟩
  refine ⟨λk σ H'=> ∃rs ws,k=je ws/\(∃v4 v5 v6 v7,σ= [some (.ref l),some (.ref la),some (.ref lr),some (.ref lw),v4,v5,v6,v7])/\TR s j af H H' lr lw rs ws/\Cy s j af L rs ws,⟨_,[],[(2^j.segs.length-1,[])],rfl,⟨_,_,_,_,rfl⟩,T0,Cy.start RR⟩,?_⟩;rintro k σ H2 ⟨rs,ws,rfl,⟨v4,v5,v6,v7,rfl⟩,T,W⟩;have hlen:=W.len hI h8;have hz:sizeLine=16777216:=af5;obtain ⟨DA,Vt,Vr⟩:=T.wait;refine ⟨_,rfl,!(DA.map V.ref).isEmpty, .inl ⟨_, .of Vt,rfl⟩,?_⟩;by_cases e0:ws= []
  ·subst e0;have e1:DA= []:=bR Vr.1;subst e1;obtain ⟨Ax,M5,Ia⟩:=T.rows;have hP:=W.perm;rw [uw,dc] at hP;refine ⟨_,rfl,lr,Ax,rs,rfl, .of M5,Ia.mono λ_ _ z=>z.2.2,?_,λi p r hp Dm hle=>?_⟩
   ·rw [Ia.1,hP.length_eq,ab];exact jT.mpr (Gw RR)
   ·exact q H2 p r T.base (Ia.2 i p r hp Dm).2.2 (by rw [<-hle];exact iS λx=>hP.mem_iff.symm)
  ·obtain ⟨Ps,⟨m,us⟩,rfl⟩: ∃Ps w,ws=Ps++ [w]:=⟨_,_,(jz e0).symm⟩
   obtain ⟨pZ,p,Th,hE,T2⟩:=T.last;have e2:DA=pZ++ [p]:=by
    rw [Vt] at Th;have z:DA.map V.ref=(pZ++ [p]).map V.ref:=by injection (bx Th)
    exact Bb z
   subst e2;rw [show (!((pZ++ [p]).map V.ref).isEmpty)=true by simp];refine oT (wN (λeM H'=> ∃NV Jv,je Jv<je (Ps++ [(m,us)])/\(∃v4 v5 v6 v7,eM= [some (.ref l),some (.ref la),some (.ref lr),some (.ref lw),v4,v5,v6,v7])/\TR s j af H H' lr lw NV Jv/\Cy s j af L NV Jv) (by rintro eM H' ⟨NV,Jv,a,b,c,d⟩;exact ⟨_,a,NV,Jv,rfl,b,c,d⟩) ?_);intro Nv;refine ⟨_,rfl, .inl ⟨rfl,_, .of Vt⟩,lw,_, .ref p,rfl,rfl,Vt,by simp,?_⟩;have ed:((pZ++ [p]).map V.ref).dropLast=pZ.map V.ref:=by simp
   rw [ed];obtain ⟨lp,ps,tp,nr,nw,B0,gE⟩:=hE.put (ys:=pZ.map V.ref) (.inr rfl) Vt;generalize upd H2 lw (.lst (pZ.map V.ref))=H3 at T2 tp B0 gE;refine ⟨_,rfl,p,_,0,_,rfl,rfl, .of tp,at_of (j:=0) rfl rfl,?_⟩;refine ⟨_,rfl,p,_,1,_,rfl,rfl, .of tp,at_of (j:=1) rfl rfl,?_⟩;refine ⟨_,rfl,rfl,_,rfl,?_⟩;obtain ⟨ac8,Tn,_⟩:=T2.rows;obtain ⟨acV,Tg,_⟩:=T2.wait;by_cases hm:m=0
   ·subst hm;refine eqT rfl ?_;refine ⟨_,rfl, .inl ⟨rfl,_, .of Tn⟩,_,rfl,lp,ps,_,rfl,B0,gE,W.okp hI h8,λH4 p4 s4 n4 h4=>?_⟩;obtain ⟨Ax,M4,RW,T4⟩:=(T2.mono s4).row h4 (aG Tn n4).symm (aG Tg n4).symm;refine ⟨lr,_,_,rfl,rfl,M4,?_,rs++ [pz s j af us],Ps,KL Ps us,⟨_,_,_,_,rfl⟩,T4,W.row⟩;rw [ab,RW];omega
   ·refine Nd (by omega) ?_;have RT:=W.lt (m,us) (by simp);obtain ⟨ls,C⟩:=hC;refine ⟨_,rfl,_,rfl,_,rfl,H0,H,s,j,af,l,la,L,m,al,rfl,⟨ls,C⟩,T2.base,hL,hI,hS.mono T2.base,hm,RT,λH4 r s4 n4 Ay=>?_⟩;obtain ⟨lH,xl,nv⟩:=Ay;have nrw:r≠lw:=(aG Tg n4).symm;have T4:=T2.mono s4;have Z1:=s4 _ _ B0;have aee:(FW (cZ s j af L) d4 (pd s j af) cn m).length<=L.length:=aV (aO _ _) (aV (aO _ _) (aO _ _));have adV:Ps.length<=6000:=by
     rw [aK] at hlen;omega
    refine ⟨r,rfl,⟨_, .of xl⟩,eQ (K:=K) (a:=r) (xs:=lH.map V.ref) (λn σ H'=>(∃v4 v7,σ= [some (.ref l),some (.ref la),some (.ref lr),some (.ref lw),v4,some (.int (m:Int)),some (.ref lp),v7])/\TR s j af H H' lr lw rs (Ps++((FW (cZ s j af L) d4 (pd s j af) cn m).take n).map (vb m us))/\dB lw H4 H')
     ⟨⟨_,_,rfl⟩,by simpa using T4,λ_ _ _ z=>z⟩ (λn σ H' _ zz=> .of (zz.2.2 _ _ nrw xl)) ?_ ?_⟩
    ·rintro _ _ _ n x σ H5 hx ⟨⟨v4,v7,rfl⟩,T5,B5⟩;obtain ⟨ca,rl,rfl⟩:=b0 hx;obtain ⟨u,hu,cat⟩:=nv.get' rl;have M0:=(au.mp (aH hu)).1;have Tz:=qd M0;have WE:=cat.mono T5.base;obtain ⟨lc,pc,_,EE,hlc,hpc⟩:=WE.parts;have Z0:=B5 _ _ nw Z1;have VD:bQ (λp x=>H5 p=some (.tup ((nE x).map V.int))) ps (us.flatMap (jV s j af)):=gE.mono λ_ _ z=>B5 _ _ (i8 z Tg rfl) (s4 _ _ z);obtain ⟨acU,hw5,_⟩:=T5.wait;obtain ⟨ac7,hr5,_⟩:=T5.rows;refine ⟨_,rfl, .inl ⟨rfl,_, .of hw5⟩,_,rfl,_,rfl,aL WE.we ⟨_,_,rfl,rfl,_,rfl,_,rfl,aL EE ⟨lp,lc,_,_,rfl,rfl,Z0,hlc,?_,λln MY=>⟨(by show 2<=sizeLine;decide),λtn ntn=>?_⟩⟩⟩⟩
     ·rw [ab,ab,VD.1,hpc.1];have g1:=W.short hI h8 (m:=m) (us:=us) (by simp);have g2:(jV s j af u).length<=2:=by unfold jV;cases u.2<;>simp
      omega
     ·have em2:(m:Int)-(d4 u:Int)=((m-d4 u:Nat):Int):=by omega
      have s6:aD H5 (upd H5 ln (.lst (ps.map V.ref++pc.map V.ref))):=aD.new MY;have s7:=aD.new (o:= .tup [.int ((m:Int)-(d4 u:Int)), .ref ln]) ntn;have E7:Ent s j af (upd (upd H5 ln (.lst (ps.map V.ref++pc.map V.ref))) tn (.tup [.int ((m:Int)-(d4 u:Int)), .ref ln])) lr lw tn (vb m us u):=by
       refine ⟨ln,ps++pc,(by show _=some (HO.tup [V.int ((m-d4 u:Nat):Int),V.ref ln]);rw [<-em2];exact ak),(aG hr5 MY).symm,(aG hw5 MY).symm,?_,?_⟩
       ·rw [aP];exact s7 _ _ ak
       ·show bQ _ _ ((us++ [u]).flatMap (jV s j af));rw [cc];have:=(VD.append hpc).mono λ_ _ z=>s7 _ _ (s6 _ _ z);simpa using this
      obtain ⟨acT,Xr,Xz,T8⟩:=((T5.mono s6).mono s7).push E7;refine ⟨lw,_,_,rfl,rfl,Xr,?_,⟨_,_,rfl⟩,?_,(B5.trans (aD.but (s6.trans s7))).trans dB.upd⟩
      ·rw [ab,Xz,aK,ab,bc];omega
      ·rw [di hu,aP, <-cp];exact T8
    ·rintro σ H5 ⟨⟨v4,v7,rfl⟩,T5,B5⟩;rw [ab,nv.1,bo] at T5;exact ⟨rs,_,HL hI hL Ps us hm,⟨_,_,_,_,rfl⟩,T5,W.push hI hm⟩
end
end Lf
namespace Lf
open Vbahaf (rowLess least price firstOf alone allSingles)
theorem sf {α:Type} {xs:List α} {v:α} {z:Int} (hz:z= -1) (h:xs[xs.length-1]?=some v):Jl xs z=some v:=by
 subst hz;have fZ:xs≠ []:=λe=>by rw [e] at h;cases h
 obtain ⟨ys,w,rfl⟩: ∃ys w,xs=ys++ [w]:=⟨_,_,(jz fZ).symm⟩
 simp at h;subst h;exact Mt ys w
inductive HQ (K:aa) (vs:List V) (H:Hp) (R:ag->ai->Int->Prop):Prop
 |mk (h:HA) (s:ag) (fl:List aq) (j:ai) (af:Int):vs= [.ref h.a, .int af]->aZ K H h s fl->s.journey=some j->(0<=af/\af<=4)->R s j af->HQ K vs H R
def xJ (K:aa):Sp:=λvs H Q _=>HQ K vs H λs j af=>(∀H',aD H H'->price s j af=none->Q .fE H')/\∀(H':Hp) (l:Addr) (r:List Int),aD H H'->price s j af=some r->r.length<=30->H' l=some (.lst (r.map V.int))->Q (.ref l) H'
theorem yV {s:ag} {j:ai} {af:Int} {L:List Un} {al:Bool} (I:jQ s j af al (cZ s j af L)) (h8:j.segs.length<=8) {t:List Int} (h:least ((qO s j af L (2^j.segs.length-1)).map (pz s j af))=some t):t.length<=24:=by
 obtain ⟨us,Dl,rfl⟩:=aj.mp (cq.mp h).1;have h1:=(uF (s:=s) (af:=af) (pU I h8 Dl) h8).len;unfold pz Nm;have h2:=gN (k:=3) (l:=uI (us.flatMap (jV s j af))) (f:=λx=> [(x.1.2:Int),x.2.1,Jg ((uI (us.flatMap (jV s j af))).map (·.1)) x.2.2]) λ_ _=>ay _;rw [(kN _).length_eq] at h2;omega
theorem nL {n:Nat} (h8:n<=8):(ll n).length<10000:=by
 unfold ll;rw [aK];have g1:=ud h8 (oo n n).length;have g2:=FC h8 (oo n n).length;omega
section
theorem zd:ba ["house","kind","choices","sums"] ["house","kind"] (aM (top 98)):=fi
theorem ON (D:Dn K mg "least_pricing" (top 98) ["house","kind"]) (G1:Fn P w K mg base "find_choices" 8 ["house","kind"] (ua K)) (G2:Fn P w K mg base "least_sums" 3 ["choices"] (DS K)) (G3:Fn P w K mg base "least_threes" 4 ["choices","sums"] (Py K)):
  Fn P w K mg base "least_pricing" 9 ["house","kind"] (xJ K):=by
 refine D.go zd λf db A outer s H vs Q E hr h=>?_
 ·intro Xc;obtain ⟨h,s,fl,j,af,rfl,hh,hj,hk,q0,q1⟩:=h;have h8:j.segs.length<=8:=(hh.ok.jo j hj).ge;refine ⟨_,(am (st 2 zd.nd (pc G1 hr (ae (pv 0) (ae (pv 1) ax))))
   (am (st 3 zd.nd (pc G2 hr (ae (pv 2) ax)))
   (am (cE (fT (jE (bf aY (pv 3) (ve pj aF) (λ_ _=>rfl))))
    (aA (aX lS))
    bI)
   (aA (aX (bX pJ (bJ (ae (bf cI (bf aY (pv 3) (ve pj aF) (λ_ _=>rfl)) aF (λ_ _=>rfl)) (ae (bf cI (bf aY (pv 3) (ve pj aF) (λ_ _=>rfl)) aF (λ_ _=>rfl)) ax))) (pc G3 hr (ae (pv 2) (ae (pv 3) ax))))))))),?_⟩
  refine mL ?_
  intros
  refine ⟨_,rfl,_,rfl,h,s,fl,j,af,rfl,hh,hj,hk,λH1 l s1 hC=>?_⟩;refine ⟨_,rfl,H,s,j,af,l,_,false,rfl,hC,nL h8,h8,k8 s j af,λH2 la s2 Ee hS=>?_⟩;have Ib:0<2^j.segs.length:=eV _;obtain ⟨xs,Ji,qH,P2⟩:=id hS;obtain ⟨v,hv⟩: ∃v,xs[xs.length-1]?=some v:=⟨_,ao (by omega)⟩
  have sv:=P2 _ _ hv;rw [qH] at sv;have C:=k8 s j af;have Mi:=k5 j;refine ⟨_,rfl,_,rfl,la,_,_,v,rfl,rfl, .of Ji,sf rfl hv,?_⟩;cases e:iH s j af (ll j.segs.length) (2^j.segs.length-1) with
  |none=>
   rw [e] at sv;have sv:v= .fE:=sv;subst sv;have:=pI C h8 (ay _) e;rw [Mi] at this;exact ⟨_,rfl,q0 H2 (s1.trans s2) this⟩
  |some r=>
   rw [e] at sv;obtain ⟨a,b,rfl⟩:=pk s j af _ _ _ e;obtain ⟨p,rfl,tp⟩:=sv;refine ⟨_,rfl,?_⟩;refine ⟨_,rfl,_,rfl,la,_,_,_,rfl,rfl, .of Ji,sf rfl hv,p,_,0,_,rfl,rfl, .of tp,at_of (j:=0) rfl rfl,_,rfl,_,rfl,la,_,_,_,rfl,rfl, .of Ji,sf rfl hv,p,_,1,_,rfl,rfl, .of tp,at_of (j:=1) rfl rfl,(by show 2<=sizeLine;decide),λl2 n2=>?_⟩;have s3:aD H2 (upd H2 l2 (.lst [.int a, .int b])):=aD.new n2;obtain ⟨ls,CB⟩:=hC;refine ⟨_,rfl,_,rfl,H,s,j,af,l,la,ll j.segs.length,false,[a,b],rfl,⟨ls,CB.mono (s2.trans s3)⟩,nL h8,C,hS.mono s3,h8,e,λH4 r4 t4 s4 M4 hle=>?_⟩;have Xs:=pH C h8 (ay _) e hle;rw [Mi] at Xs;refine ⟨l2,r4,_,_,rfl,rfl,s4 _ _ ak,M4,?_,λlz nz=>q1 _ lz ([a,b] ++t4) (((((s1.trans s2).trans s3).trans s4)).trans (aD.new nz)) Xs (by have:=yV C h8 hle;rw [aK];show 2+t4.length<=30;omega) (by rw [ak,aP];rfl)⟩;have:=yV C h8 hle;rw [ab];have:sizeLine=16777216:=af5;show 2+t4.length<=sizeLine;omega
def vO:Option Int->V
 |none=> .fE
 |some a=> .int a
def rB (s:ag) (j:ai) (af:Int) (L:List Un) (i:Nat):V:=vO ((iH s j af L (2^(i+1)-1)).map λr=>r.headD 0)
inductive yC (K:aa) (vs:List V) (H:Hp) (Q:VK):Prop
 |mk (H0:Hp) (s:ag) (j:ai) (af:Int) (l:Addr) (L:List Un) (al:Bool):vs= [.ref l]->iI K H0 H s j af l L->L.length<10000->j.segs.length<=8->jQ s j af al (cZ s j af L)->(∀(H':Hp) (r:Addr),aD H H'->H r=none->H' r=some (.lst ((bv j.segs.length).map (rB s j af L)))->Q (.ref r) H')->yC K vs H Q
def uK (K:aa):Sp:=λvs H Q _=>yC K vs H Q
theorem ow:ba ["choices","sums","prefixes","many","found"] ["choices"] (aM (top 99)):=fi
theorem OO (D:Dn K mg "prefix_totals" (top 99) ["choices"]) (b:Bl mg) (G:Fn P w K mg base "least_sums" 3 ["choices"] (DS K)):Fn P w K mg base "prefix_totals" 4 ["choices"] (uK K):=by
 refine D.go ow λf db A outer s H vs Q E hr h=>?_
 ·intro Xc;obtain ⟨H0,s,j,af,l,L,al,rfl,hC,hL,h8,hI,q⟩:=h;obtain ⟨ls,C⟩:=id hC;refine ⟨_,(am (st 1 ow.nd (pc G hr (ae (pv 0) ax)))
   (am (qy (i:=2) rfl ow.nd rfl rfl (tY rfl rfl rfl rfl) (iC rfl b.range (ae aF (ae (bX fD (iV b.len (pv 0)) aF) ax))) (cT (own:= [("many",3)]) (by kernel_rfl))
    (λ_ _ _ _ _=>(gn 3 ow.nd)) (λ_ _ _ _ _=>eY)
    (λ_ _ _ _ _=>(Ml K (pv 1) (bX fU (bX zr aF (pv 3)) aF))))
   (aA (aX (ir rfl ow.nd (cC (pv 2)) (cT (own:= [("found",4)]) (by kernel_rfl))
    (λ_ _ _ _ _=>(gn 4 ow.nd)) (λ_ _ _ _ _=>eY)
    (λ_ _ _ _ _=>(Bt (fT (jE (pv 4))) lS (aaH K (pv 4) aF)))))))),?_⟩
  refine qo ?_
  intros
  refine ⟨_,rfl,H0,s,j,af,l,L,al,rfl,hC,hL,h8,hI,λH1 la s1 Ee hS=>?_⟩;obtain ⟨xs,Ji,qH,P2⟩:=id hS;have rj:((ls.map V.ref).length:Int)=j.segs.length:=by rw [ab,C.len]
  have VP: ∀k,k<j.segs.length->2^(k+1)<=2^j.segs.length:=λk hk=>dS (by decide) hk;have Ox: ∀k:Nat,0<2^(k+1):=λk=>eV _;refine ⟨_,rfl,l,_,rfl, .inl (.of (s1 _ _ C.lst)),_,_,rfl,rfl,_,_,rfl,?_,λD hD=>?_⟩
  ·rw [rj];exact ⟨by omega,by omega,by omega,by omega⟩
  refine BP (lo:=1) (λn H'=>aD H1 H'/\∃ys:List V,H' D=some (.lst ys)/\ys.length=n/\∀(i:Nat) (v:V),ys[i]?=some v->pS H1 v (iH s j af L (2^(i+1)-1))) ⟨aD.new hD,[],ak,rfl,λi v z=>by simp at z⟩ ?_ ?_
  ·rintro _ _ _ _ k H2 hk ⟨s2,ys,hy,Ou,MZ⟩;rw [rj] at hk;have hk:k<j.segs.length:=by omega
   have g1:=VP k hk;have g2:=Ox k;obtain ⟨v,hv⟩: ∃v,xs[2^(k+1)-1]?=some v:=⟨_,ao (by omega)⟩
   have eix:(1:Int)*2^((1:Int)+(k:Int)).toNat-1=((2^(k+1)-1:Nat):Int):=by
    have e1:(1:Int)+(k:Int)=((k+1:Nat):Int):=by omega
    rw [e1,zb];omega
   refine ⟨rfl,_,rfl,_,rfl,_,_,rfl,rfl,⟨by omega,by omega,by decide⟩,_,_,rfl,rfl,la,_,_,v,rfl,rfl, .of (s2 _ _ Ji),at_of (j:=2^(k+1)-1) eix hv,ys,hy,?_,aD.put s2 hD,ys++ [v],ak,?_,?_⟩
   ·have:sizeLine=16777216:=af5;omega
   ·rw [aK,Ou];rfl
   ·intro i w hw;by_cases hi:i<ys.length
    ·rw [bV hi] at hw;exact MZ i w hw
    ·rw [cy (by omega)] at hw;have Z9:i=k:=by
      have:=(aJ.mp hw).1;simp only [aS,dA] at this;omega
     subst Z9;rw [Ou,tT] at hw;cases hw;exact P2 _ _ hv
  ·rintro H2 ⟨s2,ys,hy,Ou,MZ⟩;have en:((((ls.map V.ref).length:Nat):Int)+1-1).toNat=j.segs.length:=by rw [rj];omega
   have Ou:ys.length=j.segs.length:=Ou.trans en;refine ⟨_,rfl,D,rfl,⟨_, .of hy⟩,λD2 TD=>fG (K:=K) (a:=D) (xs:=ys) (λn H'=>aD H2 H'/\H' D2=some (.lst (((bv j.segs.length).take n).map (rB s j af L)))) ⟨aD.new TD,ak⟩ (λn H' _ zz=> .of (zz.1 _ _ hy)) ?_ ?_⟩
   ·rintro _ _ _ _ n y H3 Xo ⟨s3,h3⟩;have hn:n<j.segs.length:=by
     have:=(aJ.mp Xo).1;omega
    have sv:=MZ n y Xo;have ht:(bv j.segs.length)[n]?=some n:=by rw [g5 hn]
    have hsz:(((bv j.segs.length).take n).map (rB s j af L)).length<sizeLine:=by
     rw [ab,bc,bZ];have:sizeLine=16777216:=af5;omega
    have fin: ∀v,v=rB s j af L n->aD H2 (upd H3 D2 (.lst (((bv j.segs.length).take n).map (rB s j af L)++ [v])))/\upd H3 D2 (.lst (((bv j.segs.length).take n).map (rB s j af L)++ [v])) D2=some (.lst (((bv j.segs.length).take (n+1)).map (rB s j af L))):=λv ev=>by
     refine ⟨aD.put s3 TD,?_⟩;rw [ak,di ht,aP,ev];rfl
    cases e:iH s j af L (2^(n+1)-1) with
    |none=>
     rw [e] at sv;have sv:y= .fE:=sv;subst sv;exact ⟨rfl,_,rfl,_,rfl,_,h3,hsz,fin .fE (by unfold rB;rw [e];rfl)⟩
    |some r=>
     rw [e] at sv;obtain ⟨a,b',rfl⟩:=pk s j af L _ _ e;obtain ⟨p,rfl,tp⟩:=sv;refine ⟨rfl,_,rfl,_,rfl,?_⟩;exact ⟨_,rfl,p,_,0,_,rfl,rfl, .of (s3 _ _ (s2 _ _ tp)),at_of (j:=0) rfl rfl,_,h3,hsz,fin (.int a) (by unfold rB;rw [e];rfl)⟩
   ·rintro H3 ⟨s3,h3⟩;rw [Ou,ck (by rw [bZ];exact ay _)] at h3;exact q H3 D2 ((s1.trans s2).trans s3) ((s1.trans s2).free TD) h3
end
end Lf
namespace Lf
open Vbahaf (rowLess least price firstOf alone allSingles)
def AJ (s:ag) (j:ai) (af:Int) (i:Nat):V:=vO ((price s (firstOf j (i+1)) af).map λr=>r.headD 0)
def Nw (s:ag) (j:ai) (af:Int):V:=vO ((price s j af).map λr=>r.headD 0)
theorem Nu (s:ag) (j:ai) (af:Int) (h8:j.segs.length<=8):(bv j.segs.length).map (rB s j af (ll j.segs.length))=(bv j.segs.length).map (AJ s j af):=by
 refine bO λi hi=>?_;unfold rB AJ;rw [D1 (k8 s j af) h8 (by have:=bE.mp hi;omega)];rfl
theorem GY (s:ag) (j:ai) (af:Int) (h1:1<=j.segs.length):AJ s j af (j.segs.length-1)=Nw s j af:=by
 unfold AJ Nw;rw [MQ h1,k5]
theorem DH (s:ag) (j:ai) (af:Int) (h1:1<=j.segs.length) (h8:j.segs.length<=8):rB s j af (Aw j.segs.length (oo j.segs.length j.segs.length).length) (j.segs.length-1)=vO (alone (allSingles s j af) j.segs.length 9 0):=by
 unfold rB;rw [MQ h1,Ae (Gm s j af) (bw _) (by omega)];rfl
theorem vG {α:Type} (f:Nat->α) {n:Nat} (h:1<=n):((bv n).map f)[((bv n).map f).length-1]?=some (f (n-1)):=by
 rw [ab,bZ,bp,g5 (by omega)];rfl
theorem AL {α:Type} (f:α->Nat): ∀l:List α,(l.map λu=>(f u:Int)).sum=(((l.map f).sum:Nat):Int)
 | []=>rfl
 |a::l=>by
  rw [bb,fe,bb,fe,AL f l];omega
def uJ (K:aa):Sp:=λvs H Q _=>HQ K vs H λs j af=> ∀(H':Hp) (r:Addr),aD H H'->H' r=some (.lst ((bv j.segs.length).map (AJ s j af)))->Q (.ref r) H'
def Fg (K:aa):Sp:=λvs H Q _=>HQ K vs H λs j af=> ∀(H':Hp),aD H H'->Q (Nw s j af) H'
def Fv (K:aa):Sp:=λvs H Q _=>HQ K vs H λs j af=> ∀(H':Hp),aD H H'->Q (vO (alone (allSingles s j af) j.segs.length 9 0)) H'
def Ft (K:aa):Sp:=λvs H Q _=>HQ K vs H λs j af=> ∀(H':Hp),aD H H'->Q (.int ((Dx s j af).length:Int)) H'
section
theorem NM:ba ["house","kind"] ["house","kind"] (aM (top 100)):=fi
theorem OF (D:Dn K mg "least_totals_by_prefix" (top 100) ["house","kind"]) (G1:Fn P w K mg base "find_choices" 8 ["house","kind"] (ua K)) (G2:Fn P w K mg base "prefix_totals" 4 ["choices"] (uK K)):
  Fn P w K mg base "least_totals_by_prefix" 9 ["house","kind"] (uJ K):=by
 refine D.go NM λf db A outer s H vs Q E hr h=>?_
 ·intro Xc;obtain ⟨h,s,fl,j,af,rfl,hh,hj,hk,q⟩:=h;have h8:j.segs.length<=8:=(hh.ok.jo j hj).ge;refine ⟨_,(aA (aX (pc G2 hr (ae (pc G1 hr (ae (pv 0) (ae (pv 1) ax))) ax)))),?_⟩;refine ⟨_,rfl,_,rfl,h,s,fl,j,af,rfl,hh,hj,hk,λH1 l s1 hC=>?_⟩;refine ⟨H,s,j,af,l,_,false,rfl,hC,nL h8,h8,k8 s j af,λH2 r s2 nr Ia=>?_⟩;rw [Nu s j af h8] at Ia;exact q H2 r (s1.trans s2) Ia
theorem Q5:ba ["house","kind"] ["house","kind"] (aM (top 101)):=fi
theorem Se (D:Dn K mg "least_total" (top 101) ["house","kind"]) (G1:Fn P w K mg base "least_totals_by_prefix" 9 ["house","kind"] (uJ K)):Fn P w K mg base "least_total" 10 ["house","kind"] (Fg K):=by
 refine D.go Q5 λf db A outer s H vs Q E hr h=>?_
 ·intro Xc;obtain ⟨h,s,fl,j,af,rfl,hh,hj,hk,q⟩:=h;have h1:1<=j.segs.length:=(hh.ok.jo j hj).le;refine ⟨_,(aA (aX (bf aY (pc G1 hr (ae (pv 0) (ae (pv 1) ax))) (ve pj aF) (λ_ _=>rfl)))),?_⟩;refine ⟨_,rfl,_,rfl,h,s,fl,j,af,rfl,hh,hj,hk,λH1 r s1 M5=>?_⟩;refine ⟨_,rfl,r,_,_,_,rfl,rfl, .of M5,sf rfl (vG _ h1),?_⟩;rw [GY s j af h1];exact q H1 s1
theorem J4:ba ["house","kind"] ["house","kind"] (aM (top 102)):=fi
theorem LX (D:Dn K mg "least_total_alone" (top 102) ["house","kind"]) (G1:Fn P w K mg base "find_offers" 7 ["house","kind"] (lO K)) (G2:Fn P w K mg base "find_singles" 4 ["house","offered"] (y8 K)) (G3:Fn P w K mg base "prefix_totals" 4 ["choices"] (uK K)):
  Fn P w K mg base "least_total_alone" 8 ["house","kind"] (Fv K):=by
 refine D.go J4 λf db A outer s H vs Q E hr h=>?_
 ·intro Xc;obtain ⟨h,s,fl,j,af,rfl,hh,hj,hk,q⟩:=h;have h1:1<=j.segs.length:=(hh.ok.jo j hj).le;have h8:j.segs.length<=8:=(hh.ok.jo j hj).ge;refine ⟨_,(aA (aX (bf aY (pc G3 hr (ae (pc G2 hr (ae (pv 0) (ae (pc G1 hr (ae (pv 0) (ae (pv 1) ax))) ax))) ax)) (ve pj aF) (λ_ _=>rfl)))),?_⟩;refine ⟨_,rfl,_,rfl,_,rfl,h,s,fl,j,af,rfl,hh,hj,hk,λH1 lo s1 nlo Xu=>?_⟩;refine ⟨h,s,fl,j,af,lo,_,rfl,hh.mono s1,hj,Xu,λH2 l s2 hC=>?_⟩;refine ⟨H1,s,j,af,l,_,true,rfl,hC,cu (ud h8 _) (by decide),h8,Gm s j af,λH3 r s3 nr Tn=>?_⟩;refine ⟨_,rfl,r,_,_,_,rfl,rfl, .of Tn,sf rfl (vG _ h1),?_⟩;rw [DH s j af h1 h8];exact q H3 ((s1.trans s2).trans s3)
theorem kS:ba ["house","kind","choices","ways","mask","choice"] ["house","kind"] (aM (top 103)):=fi
theorem LV (D:Dn K mg "count_ways" (top 103) ["house","kind"]) (b:Bl mg) (G1:Fn P w K mg base "find_choices" 8 ["house","kind"] (ua K)) (G2:Fn P w K mg base "choices_within" 2 ["choices","mask"] (qm K)):
  Fn P w K mg base "count_ways" 9 ["house","kind"] (Ft K):=by
 refine D.go kS λf db A outer s H vs Q E hr h=>?_
 ·intro Xc;obtain ⟨h,s,fl,j,af,rfl,hh,hj,hk,q⟩:=h;have h8:j.segs.length<=8:=(hh.ok.jo j hj).ge;have hI:=k8 s j af;refine ⟨_,(am (st 2 kS.nd (pc G1 hr (ae (pv 0) (ae (pv 1) ax))))
   (am (st 3 kS.nd (bJ (ae aF ax)))
   (am (dk PassesOwn.never rfl (iC rfl b.range (ae aF (ae (bX zr aF (iV b.len (pv 2))) ax))) (gn 4 kS.nd)
    (aA (eD (Cg (pv 3) (dU (zX rfl) rfl b.sum hX (ae (ir rfl kS.nd (cC (pc G2 hr (ae (pv 2) (ae (pv 4) ax)))) (cT (own:= [("choice",5)]) (by kernel_rfl))
    (λ_ _ _ _ _=>(gn 5 kS.nd)) (λ_ _ _ _ _=>eY)
    (λ_ _ _ _ _=>(Ml K (pv 3) (bX fU (pv 4) (eF K (pv 5)))))) ax))))))
   (aA (aX (bf aY (pv 3) (ve pj aF) (λ_ _=>rfl))))))),?_⟩
  refine mL ?_
  intros
  refine ⟨_,rfl,_,rfl,h,s,fl,j,af,rfl,hh,hj,hk,λH1 l s1 hC=>?_⟩;obtain ⟨ls,C⟩:=id hC;obtain ⟨N,hN⟩: ∃N,N=2^j.segs.length:=⟨_,rfl⟩
  have hN8:N<=256:=by rw [hN];exact Kl h8
  have hN1:1<=N:=by rw [hN];exact MR
  have VU:(ls.map V.ref).length<=8:=by rw [ab,C.len];exact h8
  have Ss:(1:Int)*2^(((ls.map V.ref).length:Nat):Int).toNat=(N:Int):=by rw [zb,ab,C.len,hN]
  let Tl:Nat->Int:=λm=>((T (cZ s j af (ll j.segs.length)) d4 m).length:Int)
  have R5:(Dx s j af).length=(T (cZ s j af (ll j.segs.length)) d4 (N-1)).length:=by rw [hN];exact O8 hI h8
  refine ⟨(by show 1<=sizeLine;decide),λlw FR=>?_⟩;have s2:aD H1 (upd H1 lw (.lst [.int 1])):=aD.new FR;refine ⟨_,rfl,l,_,rfl, .inl (.of (s2 _ _ C.lst)),_,_,rfl,rfl,⟨by omega,by omega,by decide⟩,_,_,rfl,?_,?_⟩
  ·rw [Ss];exact ⟨by omega,by omega,by omega,by omega⟩
  ·refine g8 (lo:=1) (λk σ H'=>(∃v4 v5,σ= [some (.ref h.a),some (.int af),some (.ref l),some (.ref lw),v4,v5])/\aD H1 H'/\H' lw=some (.lst (((bv (k+1)).map Tl).map V.int))) ⟨⟨_,_,rfl⟩,s2,?_⟩ ?_ ?_
   ·rw [ak];show _=some (HO.lst [V.int (Tl 0)]);have:Tl 0=1:=by
     show ((T (cZ s j af (ll j.segs.length)) d4 0).length:Int)=1;rw [EY];rfl
    rw [this]
   ·rintro _ _ _ k σ H2 hk ⟨⟨v4,v5,rfl⟩,s3,hw⟩;rw [Ss] at hk;have em:(1:Int)+(k:Int)=((k+1:Nat):Int):=by omega
    rw [em];refine ⟨_,rfl, .inl ⟨rfl,_, .of hw⟩,_,rfl,_,rfl,H,H1,s,j,af,l,_,k+1,rfl,hC,s3,nL h8,by omega,by rw [<-hN];omega,λH3 r s4 nr Ay=>?_⟩;obtain ⟨lH,xl,nv⟩:=Ay;have Tg:=s4 _ _ hw;refine ⟨r,rfl,⟨_, .of xl⟩,λD hD=>fG (K:=K) (a:=r) (xs:=lH.map V.ref) (λn H'=>aD H3 H'/\H' D=some (.lst ((((ji (cZ s j af (ll j.segs.length)) d4 (k+1)).take n).map λu=>Tl (k+1-d4 u)).map V.int))) ⟨aD.new hD,ak⟩ (λn H' _ zz=> .of (zz.1 _ _ xl)) ?_ ?_⟩
    ·rintro _ _ _ _ n x H4 hx ⟨s5,XM⟩;obtain ⟨ca,rl,rfl⟩:=b0 hx;obtain ⟨u,hu,cat⟩:=nv.get' rl;have M0:=aH hu;have Tz:=qd M0;have i4:=qe hI.ok M0;have hix:(((bv (k+1)).map Tl).map V.int)[k+1-d4 u]?=some (.int (Tl (k+1-d4 u))):=by
      rw [bp,bp,g5 (by omega)];rfl
     refine ⟨rfl,_,rfl,_,rfl,_,rfl,aL (cat.mono ((s3.trans s4).trans s5)).we ⟨_,_,rfl,rfl,lw,_,_,_,rfl,rfl, .of (s5 _ _ Tg),at_of (j:=k+1-d4 u) (by omega) hix,_,XM,?_,aD.put s5 hD,?_⟩⟩
     ·rw [ab,ab,bc];have g:(ji (cZ s j af (ll j.segs.length)) d4 (k+1)).length<=(ll j.segs.length).length:=aV (aO _ _) (aO _ _);have:=nL h8;have:sizeLine=16777216:=af5;omega
     ·rw [ak,di hu,aP,aP];rfl
    ·rintro H4 ⟨s5,XM⟩;rw [ab,nv.1,bo] at XM;refine ⟨D,_,rfl, .of XM,lw,_,_,rfl,rfl,s5 _ _ Tg,?_,⟨_,_,rfl⟩,aD.put ((s3.trans s4).trans s5) FR,?_⟩
     ·rw [ab,ab,bZ];have:sizeLine=16777216:=af5;omega
     ·rw [ak,ints_snoc,dW (n:=k+1),aP];have e1:((ji (cZ s j af (ll j.segs.length)) d4 (k+1)).map λu=>Tl (k+1-d4 u)).sum=Tl (k+1):=by
       show _=((T (cZ s j af (ll j.segs.length)) d4 (k+1)).length:Int)
       rw [WM hI.ok (by omega)];exact AL (λu=>(T (cZ s j af (ll j.segs.length)) d4 (k+1-d4 u)).length) _
      rw [e1];simp
   ·rintro σ H2 ⟨⟨v4,v5,rfl⟩,s3,hw⟩;rw [Ss] at hw;have e:((N:Int)-1).toNat+1=N:=by omega
    rw [e] at hw;refine ⟨_,rfl,_,rfl,lw,_,_, .int (Tl (N-1)),rfl,rfl, .of hw,sf rfl ?_,?_⟩
    ·rw [bi];exact vG _ hN1
    ·show Q (.int ((T (cZ s j af (ll j.segs.length)) d4 (N-1)).length:Int)) H2;rw [<-R5];exact q H2 (s1.trans s3)
end
end Lf
namespace Lf
open Vbahaf (rowLess least price firstOf alone allSingles taxesOf)
inductive Gy (K:aa) (ok:List Int->List Int->Prop) (g:ag->ai->List Int->List Int->List Int) (vs:List V) (H:Hp) (Q:VK):Prop
 |mk (h:HA) (s:ag) (fl:List aq) (j:ai) (ln lw:Addr) (ns rw:List Int):vs= [.ref h.a, .ref ln, .ref lw]->aZ K H h s fl->s.journey=some j->H ln=some (.lst (ns.map V.int))->H lw=some (.lst (rw.map V.int))->ok ns rw->(∀(H':Hp) (l:Addr),aD H H'->H l=none->H' l=some (.lst ((g s j ns rw).map V.int))->Q (.ref l) H')->Gy K ok g vs H Q
def fy (K:aa) (ok:List Int->List Int->Prop) (g:ag->ai->List Int->List Int->List Int):Sp:=λvs H Q _=>Gy K ok g vs H Q
def ng (ns rw:List Int):Prop:= ∃af:Int,ns= [af]/\0<=af/\af<=4
def zN (s:ag) (j:ai) (ns rw:List Int):List Int:=match price s j (ns.getD 0 0) with
 |none=> [-7]
 |some r=>0::r
def zO (s:ag) (j:ai) (ns rw:List Int):List Int:=match alone (allSingles s j (ns.getD 0 0)) j.segs.length 9 0 with
 |none=> [-7]
 |some t=> [0,t]
def Ln (s:ag) (j:ai) (ns rw:List Int):List Int:= [0,((Dx s j (ns.getD 0 0)).length:Int)]
def Qe (s:ag) (j:ai) (ns rw:List Int):List Int:=0::(bv j.segs.length).map λm=>match price s (firstOf j (m+1)) (ns.getD 0 0) with
 |none=> -1
 |some r=>r.headD 0
def Qc (s:ag) (j:ai) (ns rw:List Int):List Int:=0::j.now::taxesOf s j::(j.segs.length:Int)::j.segs.flatMap λg=> [g.carrier,g.src,g.dst,g.day,g.cls]
def xG (s:ag) (a:Int):Int:=match s.taxes.find? λt=>decide (t.1=a) with
 |some t=>t.2
 |none=>0
theorem k4: ∀(l:List Int) (a:Int),l.foldl (λa b=>a+b) a=a+l.sum
 | [],a=>by simp
 |x::l,a=>by
  rw [oh,k4 l (a+x),fe];omega
theorem G8 (s:ag) (j:ai):taxesOf s j=(j.segs.map λg=>xG s g.src).sum:=by
 unfold taxesOf;rw [k4];exact oi _
theorem aZ.xG {K:aa} {H:Hp} {h:HA} {s:ag} {fl:List aq} (x:aZ K H h s fl): ∃kvs:List (Key×V),H h.x=some (.dK kvs)/\∀a:Int,(cr kvs (az a)).getD (.int 0)= .int (Lf.xG s a):=by
 obtain ⟨kvs,h1,h2⟩:=x.taxes;have nd:(kvs.map (·.1)).Nodup:=by
  refine (h2.map _).nodup_iff.mpr ?_;rw [bi];have:=gk (f:=λx:Int=>(az x:Key)) (λa b e=>cU e) x.ok.ts;rw [bi] at this;exact this
 refine ⟨kvs,h1,λa=>?_⟩;unfold Lf.xG;cases q:s.taxes.find? λt=>decide (t.1=a) with
 |some t=>
  have e1:t.1=a:=by simpa using fY q
  have hm:=cV q;have:=qj nd (h2.mem_iff.mpr (aj.mpr ⟨t,hm,rfl⟩));rw [e1] at this;rw [this];rfl
 |none=>
  rw [dI] at q;cases z:cr kvs (az a) with
  |none=>rfl
  |some v=>
   have:=h2.mem_iff.mp (qi z);obtain ⟨t,hm,e⟩:=aj.mp this;have e1:t.1=a:=cU (gq e).1;exact absurd (by simpa using e1) (q t hm)
inductive CI (K:aa) (vs:List V) (H:Hp) (Q:VK):Prop
 |mk (h:HA) (s:ag) (fl:List aq) (j:ai):vs= [.ref h.a]->aZ K H h s fl->s.journey=some j->(∀H',aD H H'->Q (.int (taxesOf s j)) H')->CI K vs H Q
def y6 (K:aa):Sp:=λvs H Q _=>CI K vs H Q
section
theorem uX:ba ["house","segment"] ["house"] (aM (top 107)):=fi
theorem LA (D:Dn K mg "journey_taxes" (top 107) ["house"]) (b:Bl mg):Fn P w K mg base "journey_taxes" 1 ["house"] (y6 K):=by
 refine D.go uX λf db A outer s H vs Q E hr h=>?_
 ·intro Xc;obtain ⟨h,s,fl,j,rfl,hh,hj,q⟩:=h;have hu:=jH hr;obtain ⟨ja,fj,HW⟩:=hh.il hj;obtain ⟨BQ,l,as,Tr,Gb,hl,hs,_⟩:=HW;have h8:j.segs.length<=8:=(hh.ok.jo j hj).ge;obtain ⟨kvs,hx,ht⟩:=hh.xG;refine ⟨_,(aA (aX (dU (zX rfl) rfl b.sum hX (ae (ir rfl uX.nd (cC (aT (aT (pv 0) rfl) rfl)) (cT (own:= [("segment",1)]) (by kernel_rfl))
    (λ_ _ _ _ _=>(gn 1 uX.nd)) (λ_ _ _ _ _=>eY)
    (λ_ _ _ _ _=>(qA hu (eF K (pv 0)) (eF K (pv 1)) aF ⟨rfl,rfl,rfl,rfl⟩))) ax)))),?_⟩
  refine ⟨_,rfl,aL fj (aL Gb ⟨l,rfl,⟨_, .of hl⟩,λD hD=>fG (K:=K) (a:=l) (xs:=as.map V.ref) (λn H'=>aD H H'/\H' D=some (.lst (((j.segs.take n).map λg=>xG s g.src).map V.int))) ⟨aD.new hD,ak⟩ (λn H' _ zz=> .of (zz.1 _ _ hl)) ?_ ?_⟩)⟩
  ·rintro _ _ _ _ n y H1 hy ⟨s1,h1⟩;obtain ⟨a,ha,rfl⟩:=b0 hy;obtain ⟨g,hg,sa⟩:=hs.get' ha;refine ⟨rfl,_,rfl,aL (hh.Ma.mono s1) ⟨h.x,rfl, .inl ⟨_, .inl (s1 _ _ hx)⟩,_,rfl,aL (sa.mono s1).origin ⟨_,j0.k (k:=az g.src) (s1 _ _ hx),?_⟩⟩⟩;rw [ht];refine ⟨_,h1,?_,aD.put s1 hD,?_⟩
   ·rw [ab,ab,bc];have:sizeLine=16777216:=af5;omega
   ·rw [ak,di hg,aP,aP];rfl
  ·rintro H1 ⟨s1,h1⟩;rw [ab,hs.1,bo] at h1;refine ⟨D,_,rfl, .of h1,?_⟩;rw [<-G8];exact q H1 s1
theorem xN:ba ["house","numbers","row","pricing"] ["house","numbers","row"] (aM (top 106)):=fi
theorem Io (D:Dn K mg "tell_price" (top 106) ["house","numbers","row"]) (c:Cs mg) (G:Fn P w K mg base "least_pricing" 9 ["house","kind"] (xJ K)):Fn P w K mg base "tell_price" 10 ["house","numbers","row"] (fy K ng zN):=by
 refine D.go xN λf db A outer s H vs Q E hr h=>?_
 ·intro Xc;obtain ⟨h,s,fl,j,ln,lw,ns,rw,rfl,hh,hj,hn,hw,⟨af,rfl,hk⟩,q⟩:=h;refine ⟨_,(am (st 3 xN.nd (pc G hr (ae (pv 0) (ae (bf aY (pv 1) aF (λ_ _=>rfl)) ax))))
   (am (cE (fT (jE (pv 3)))
    (aA (aX (bJ (ae (kj c.qQ) ax))))
    bI)
   (aA (aX (bX pJ (bJ (ae aF ax)) (pv 3)))))),?_⟩
  refine qo ?_
  intros
  refine ⟨_,rfl,_,rfl,ln,_,0,_,rfl,rfl, .of hn,at_of (j:=0) rfl rfl,h,s,fl,j,af,rfl,hh,hj,hk,λH1 s1 hp=>?_,λH1 l r s1 hp hlen hl=>?_⟩
  ·refine ⟨_,rfl,_,rfl,(by show 1<=sizeLine;decide),λl hl=>q _ l (s1.trans (aD.new hl)) (s1.free hl) ?_⟩;rw [ak];unfold zN;rw [show ([af]:List Int).getD 0 0=af from rfl,hp];rfl
  ·refine ⟨_,rfl,_,rfl,?_⟩;refine ⟨(by show 1<=sizeLine;decide),λl0 n0=>⟨_,rfl,l0,l,_,_,rfl,rfl,ak,aD.new n0 _ _ hl,?_,λlz nz=>q _ lz ((s1.trans (aD.new n0)).trans (aD.new nz)) ((s1.trans (aD.new n0)).free nz) ?_⟩⟩
   ·rw [ab];have:sizeLine=16777216:=af5;show 1+r.length<=sizeLine;omega
   ·rw [ak];unfold zN;rw [show ([af]:List Int).getD 0 0=af from rfl,hp];rfl
theorem xO:ba ["house","numbers","row","total"] ["house","numbers","row"] (aM (top 115)):=fi
theorem Iw (D:Dn K mg "tell_alone" (top 115) ["house","numbers","row"]) (c:Cs mg) (G:Fn P w K mg base "least_total_alone" 8 ["house","kind"] (Fv K)):Fn P w K mg base "tell_alone" 9 ["house","numbers","row"] (fy K ng zO):=by
 refine D.go xO λf db A outer s H vs Q E hr h=>?_
 ·intro Xc;obtain ⟨h,s,fl,j,ln,lw,ns,rw,rfl,hh,hj,hn,hw,⟨af,rfl,hk⟩,q⟩:=h;refine ⟨_,(am (st 3 xO.nd (pc G hr (ae (pv 0) (ae (bf aY (pv 1) aF (λ_ _=>rfl)) ax))))
   (am (cE (fT (jE (pv 3)))
    (aA (aX (bJ (ae (kj c.qQ) ax))))
    bI)
   (aA (aX (bJ (ae aF (ae (pv 3) ax))))))),?_⟩
  refine qo ?_
  intros
  refine ⟨_,rfl,_,rfl,ln,_,0,_,rfl,rfl, .of hn,at_of (j:=0) rfl rfl,h,s,fl,j,af,rfl,hh,hj,hk,λH1 s1=>?_⟩;cases e:alone (allSingles s j af) j.segs.length 9 0 with
  |none=>
   refine ⟨_,rfl,_,rfl,(by show 1<=sizeLine;decide),λl hl=>q _ l (s1.trans (aD.new hl)) (s1.free hl) ?_⟩;rw [ak];unfold zO;rw [show ([af]:List Int).getD 0 0=af from rfl,e];rfl
  |some a=>
   refine ⟨_,rfl,_,rfl,?_⟩;refine ⟨_,rfl,(by show 2<=sizeLine;decide),λl hl=>q _ l (s1.trans (aD.new hl)) (s1.free hl) ?_⟩;rw [ak];unfold zO;rw [show ([af]:List Int).getD 0 0=af from rfl,e];rfl
theorem Hi:ba ["house","numbers","row"] ["house","numbers","row"] (aM (top 116)):=fi
theorem Ir (D:Dn K mg "tell_count" (top 116) ["house","numbers","row"]) (G:Fn P w K mg base "count_ways" 9 ["house","kind"] (Ft K)):Fn P w K mg base "tell_count" 10 ["house","numbers","row"] (fy K ng Ln):=by
 refine D.go Hi λf db A outer s H vs Q E hr h=>?_
 ·intro Xc;obtain ⟨h,s,fl,j,ln,lw,ns,rw,rfl,hh,hj,hn,hw,⟨af,rfl,hk⟩,q⟩:=h;refine ⟨_,(aA (aX (bJ (ae aF (ae (pc G hr (ae (pv 0) (ae (bf aY (pv 1) aF (λ_ _=>rfl)) ax))) ax))))),?_⟩;refine ⟨_,rfl,_,rfl,ln,_,0,_,rfl,rfl, .of hn,at_of (j:=0) rfl rfl,h,s,fl,j,af,rfl,hh,hj,hk,λH1 s1=>⟨(by show 2<=sizeLine;decide),λl hl=>q _ l (s1.trans (aD.new hl)) (s1.free hl) ak⟩⟩
theorem qp:ba ["house","numbers","row","totals","total"] ["house","numbers","row"] (aM (top 117)):=fi
theorem Lu (D:Dn K mg "tell_prefixes" (top 117) ["house","numbers","row"]) (c:Cs mg) (G:Fn P w K mg base "least_totals_by_prefix" 9 ["house","kind"] (uJ K)):Fn P w K mg base "tell_prefixes" 10 ["house","numbers","row"] (fy K ng Qe):=by
 refine D.go qp λf db A outer s H vs Q E hr h=>?_
 ·intro Xc;obtain ⟨h,s,fl,j,ln,lw,ns,rw,rfl,hh,hj,hn,hw,⟨af,rfl,hk⟩,q⟩:=h;have h8:j.segs.length<=8:=(hh.ok.jo j hj).ge;let fI:Nat->Int:=λm=>match price s (firstOf j (m+1)) af with
   |none=> -1
   |some r=>r.headD 0
  refine ⟨_,(am (st 3 qp.nd (pc G hr (ae (pv 0) (ae (bf aY (pv 1) aF (λ_ _=>rfl)) ax))))
   (aA (aX (bX pJ (bJ (ae aF ax)) (ir rfl qp.nd (cC (pv 3)) (cT (own:= [("total",4)]) (by kernel_rfl))
    (λ_ _ _ _ _=>(gn 4 qp.nd)) (λ_ _ _ _ _=>eY)
    (λ_ _ _ _ _=>(Bt (fT (jE (pv 4))) (kj c.My) (pv 4)))))))),?_⟩
  refine ⟨_,rfl,_,rfl,ln,_,0,_,rfl,rfl, .of hn,at_of (j:=0) rfl rfl,h,s,fl,j,af,rfl,hh,hj,hk,λH1 r s1 M5=>?_⟩;refine ⟨(by show 1<=sizeLine;decide),λl0 n0=>?_⟩;have s2:aD H1 (upd H1 l0 (.lst [.int 0])):=aD.new n0;refine ⟨_,rfl,r,rfl,⟨_, .of (s2 _ _ M5)⟩,λD hD=>fG (K:=K) (a:=r) (xs:=(bv j.segs.length).map (AJ s j af)) (λn H'=>aD (upd H1 l0 (.lst [.int 0])) H'/\H' D=some (.lst ((((bv j.segs.length).take n).map fI).map V.int))) ⟨aD.new hD,ak⟩ (λn H' _ zz=> .of (zz.1 _ _ (s2 _ _ M5))) ?_ ?_⟩
  ·rintro _ _ _ _ n y H2 hy ⟨s3,h2⟩;have Xw:n<j.segs.length:=by
    have:=(aJ.mp hy).1;rw [ab,bZ] at this;exact this
   rw [bp,g5 Xw] at hy;have hy:AJ s j af n=y:=bx hy;have ht:(bv j.segs.length)[n]?=some n:=g5 Xw;have hsz:((((bv j.segs.length).take n).map fI).map V.int).length<sizeLine:=by
    rw [ab,ab,bc,bZ];have:sizeLine=16777216:=af5;omega
   have fin: ∀v,v=V.int (fI n)->aD (upd H1 l0 (.lst [.int 0])) (upd H2 D (.lst ((((bv j.segs.length).take n).map fI).map V.int++ [v])))/\upd H2 D (.lst ((((bv j.segs.length).take n).map fI).map V.int++ [v])) D=some (.lst ((((bv j.segs.length).take (n+1)).map fI).map V.int)):=λv ev=>by
    refine ⟨aD.put s3 hD,?_⟩;rw [ak,di ht,aP,aP,ev];rfl
   subst hy;unfold AJ;cases e:price s (firstOf j (n+1)) af with
   |none=>exact ⟨rfl,_,rfl,_,rfl,_,h2,hsz,fin (.int (-1)) (by show _=V.int (match price s (firstOf j (n+1)) af with|none=> -1|some r=>r.headD 0);rw [e])⟩
   |some r0=>
    refine ⟨rfl,_,rfl,_,rfl,?_⟩;exact ⟨_,rfl,_,h2,hsz,fin (.int (r0.headD 0)) (by show _=V.int (match price s (firstOf j (n+1)) af with|none=> -1|some r=>r.headD 0);rw [e])⟩
  ·rintro H2 ⟨s3,h2⟩;rw [ab,bZ,ck (by rw [bZ];exact ay _)] at h2;refine ⟨l0,D,_,_,rfl,rfl,s3 _ _ ak,h2,?_,λlz nz=>q _ lz (((s1.trans s2).trans s3).trans (aD.new nz)) (((s1.trans s2).trans s3).free nz) ak⟩;rw [ab,ab,bZ];have:sizeLine=16777216:=af5;show 1+j.segs.length<=sizeLine;omega
end
end Lf
namespace Lf
open Vbahaf (rowLess least price firstOf alone allSingles taxesOf fareOf fareNumbers)
theorem su {κ:Type} [DecidableEq κ] {kvs:List (κ×V)} {k:κ} (h: ∀x∈kvs,x.1≠k):cr kvs k=none:=by
 cases e:cr kvs k with
 |none=>rfl
 |some v=>exact absurd rfl (h _ (qi e))
structure An (K:aa) (H:Hp) (s:ag) (kvs:List (Key×V)):Prop where
 len:kvs.length=s.fares.length
 keys: ∀x∈kvs, ∃i:Int,x.1=az i
 perm:(kvs.map λx=>zD x.1).Perm (s.fares.map λf=>f.key)
 none_: ∀k,fareOf s k=none->cr kvs (az k)=none
 xK: ∀k f,fareOf s k=some f->∃fa,cr kvs (az k)=some (.ref fa)/\dr K H fa f/\∃z,wo K H z f fa
theorem aZ.vT {K:aa} {H:Hp} {h:HA} {s:ag} {fl:List aq} (x:aZ K H h s fl): ∃kvs:List (Key×V),H h.f=some (.dK kvs)/\An K H s kvs:=by
 obtain ⟨gH,h1,h2,h3⟩:=x.fares;have hlen:fl.length=gH.length:=h2.1;have Mh:(HU fl gH).map (λx=>x.1)=fl.map λf=>(az f.key:Key):=by
  unfold HU;rw [bi];have:(fl.zip gH).map (λx=>x.1)=fl:=by rw [ut];omega
  conv=>rhs;rw [<-this]
  rw [bi];rfl
 have hN:((HU fl gH).map (·.1)).Nodup:=by
  rw [Mh];have hk:(fl.map λf=>f.key).Nodup:=(x.perm.map _).nodup_iff.mpr (by
   have:=x.ok.fs;rw [Yo,dw];exact this.imp λ{a b} h=>by omega)
  have:=gk (f:=λx:Int=>(az x:Key)) (λa b e=>cU e) hk;rw [bi] at this;exact this
 refine ⟨_,h1,?_,λy hy=>?_,?_,λk hk=>?_,λk f hf=>?_⟩
 ·unfold HU;rw [ab,dX, <-hlen,tU,x.perm.length_eq]
 ·unfold HU at hy;obtain ⟨z,_,rfl⟩:=aj.mp hy;exact ⟨_,rfl⟩
 ·have e:((HU fl gH).map λx=>zD x.1)=fl.map λf=>f.key:=by
   have:=congrArg (List.map zD) Mh;rw [bi,bi] at this;exact this
  rw [e];exact x.perm.map _
 ·refine su λy hy e=>?_;have hm:y.1∈(HU fl gH).map (·.1):=aj.mpr ⟨y,hy,rfl⟩;rw [Mh,e] at hm;obtain ⟨f,hf,e⟩:=aj.mp hm;exact sJ.mp hk f (x.perm.mem_iff.mp hf) (cU e)
 ·obtain ⟨hm,rfl⟩:=(iU x.ok).mp hf;obtain ⟨i,hi⟩:=dE.mp (x.perm.mem_iff.mpr hm);obtain ⟨fa,R0,rV⟩:=h2.get' hi;refine ⟨fa,qj hN ?_,rV,_,h3.2 i f fa hi R0⟩;unfold HU;exact aj.mpr ⟨(f,fa),aH (cf.mpr ⟨hi,R0⟩),rfl⟩
inductive CH (K:aa) (vs:List V) (H:Hp) (Q:VK):Prop
 |mk (h:HA) (s:ag) (fl:List aq) (ln lw:Addr):vs= [.ref h.a, .ref ln, .ref lw]->aZ K H h s fl->(∀(H':Hp) (l:Addr),aD H H'->H l=none->H' l=some (.lst ((0::(s.fares.length:Int)::s.fares.flatMap fareNumbers).map V.int))->Q (.ref l) H')->CH K vs H Q
def y4 (K:aa):Sp:=λvs H Q _=>CH K vs H Q
def KF (ns rw:List Int):Prop:=True
theorem AW {s:ag} (ok:kE s) {ns:List Int} (hp:ns.Perm (s.fares.map λf=>f.key)) (hs:ns.Pairwise (· <= ·)):ns=s.fares.map λf=>f.key:=by
 refine hp.eq_of_pairwise (le:=λa b:Int=>a<=b) (λa b _ _ h1 h2=>by omega) hs ?_;rw [dw];exact ok.fs.imp λ{a b} h=>by omega
section
theorem uV:ba ["house","numbers","row","told","segment"] ["house","numbers","row"] (aM (top 119)):=fi
theorem Lx (D:Dn K mg "tell_journey" (top 119) ["house","numbers","row"]) (b:Bl mg) (G:Fn P w K mg base "journey_taxes" 1 ["house"] (y6 K)):Fn P w K mg base "tell_journey" 2 ["house","numbers","row"] (fy K KF Qc):=by
 refine D.go uV λf db A outer s H vs Q E hr h=>?_
 ·intro Xc;obtain ⟨h,s,fl,j,ln,lw,ns,rw,rfl,hh,hj,hn,hw,_,q⟩:=h;obtain ⟨ja,fj,HW⟩:=hh.il hj;obtain ⟨BQ,l,as,Tr,Gb,hl,hs,ZW⟩:=HW;have h8:j.segs.length<=8:=(hh.ok.jo j hj).ge;refine ⟨_,(am (st 3 uV.nd (bJ (ae aF (ae (aT (aT (pv 0) rfl) rfl) (ae (pc G hr (ae (pv 0) ax)) (ae (iV b.len (aT (aT (pv 0) rfl) rfl)) ax))))))
   (am (dk PassesOwn.never rfl (cC (aT (aT (pv 0) rfl) rfl)) (gn 4 uV.nd)
    (aA (eD (EL (pv 3) (aT (pv 4) rfl)))))
   (aA (aX (pv 3))))),?_⟩
  refine qo ?_
  intros
  refine ⟨_,rfl,aL fj (aL BQ ⟨_,rfl,h,s,fl,j,rfl,hh,hj,λH1 s1=>⟨_,rfl,aL (fj.mono s1) (aL (Gb.mono s1) ⟨l,_,rfl, .inl (.of (s1 _ _ hl)),(by show 4<=sizeLine;decide),λlt Ro=>?_⟩)⟩⟩)⟩;have nt:H lt=none:=s1.free Ro;have s2:aD H (upd H1 lt (.lst [.int 0, .int j.now, .int (taxesOf s j), .int ((as.map V.ref).length:Nat)])):=aD.put s1 nt;refine ⟨_,rfl,aL (fj.mono s2) (aL (Gb.mono s2) ⟨l,rfl,⟨_, .of (s2 _ _ hl)⟩,eQ (K:=K) (a:=l) (xs:=as.map V.ref) (λn σ H'=>(∃v4,σ= [some (.ref h.a),some (.ref ln),some (.ref lw),some (.ref lt),v4])/\aD H H'/\H' lt=some (.lst ((0::j.now::taxesOf s j::(j.segs.length:Int)::(j.segs.take n).flatMap fz).map V.int))) ⟨⟨_,rfl⟩,s2,?_⟩ (λn σ H' _ zz=> .of (zz.2.1 _ _ hl)) ?_ ?_⟩)⟩
  ·rw [ak,ab,hs.1];rfl
  ·rintro _ _ _ n x σ H2 hx ⟨⟨v4,rfl⟩,s3,h2⟩;obtain ⟨a,ha,rfl⟩:=b0 hx;obtain ⟨g,hg,lg,_,fg,Z3⟩:=ZW.get' ha;refine ⟨_,rfl, .inl ⟨rfl,_, .of h2⟩,_,rfl,aL (fg.mono s3) ⟨lt,lg,_,_,rfl,rfl,h2,s3 _ _ Z3,?_,⟨_,rfl⟩,aD.put s3 nt,?_⟩⟩
   ·have g1:=gN (f:=fz) (k:=5) (l:=j.segs.take n) λ_ _=>ay _;rw [bc] at g1;rw [ab,ab];simp only [aS];have g2:(fz g).length=5:=rfl;have:sizeLine=16777216:=af5;omega
   ·rw [ak,di hg,cc, <-aP];simp
  ·rintro σ H2 ⟨⟨v4,rfl⟩,s3,h2⟩;rw [ab,hs.1,bo] at h2;exact ⟨_,rfl,q H2 lt s3 nt h2⟩
theorem rG:ba ["house","numbers","row","told","key"] ["house","numbers","row"] (aM (top 118)):=fi
theorem Iq (D:Dn K mg "tell_fares" (top 118) ["house","numbers","row"]) (b:Bl mg):Fn P w K mg base "tell_fares" 1 ["house","numbers","row"] (y4 K):=by
 refine D.go rG λf db A outer s H vs Q E hr h=>?_
 ·intro Xc;obtain ⟨h,s,fl,ln,lw,rfl,hh,q⟩:=h;have hu:=jH hr;obtain ⟨kvs,hf,fd⟩:=hh.vT;have xm:=hh.ok.fl;refine ⟨_,(am (st 3 rG.nd (bJ (ae aF (ae (Mj b.len (aT (pv 0) rfl)) ax))))
   (am (dk PassesOwn.never rfl (cC (dU (EN rfl) rfl b.sorted jy (ae (aT (pv 0) rfl) ax))) (gn 4 rG.nd)
    (aA (eD (EL (pv 3) (aT (oy hu (aT (pv 0) rfl) (pv 4) (λ_ _=>rfl)) rfl)))))
   (aA (aX (pv 3))))),?_⟩
  refine qo ?_
  intros
  refine ⟨_,rfl,aL hh.g7 ⟨h.f,kvs,rfl,hf,(by show 2<=sizeLine;decide),λlt nt=>?_⟩⟩;have s1:aD H (upd H lt (.lst [.int 0, .int (kvs.length:Nat)])):=aD.new nt;refine ⟨_,rfl,aL (hh.g7.mono s1) ⟨h.f,kvs,rfl, .inl (s1 _ _ hf),by rw [fd.len];omega,fd.keys,λns p ml sI np=>?_⟩⟩;have en:=AW hh.ok (ml.trans fd.perm) sI;subst en;have s2:=s1.trans (aD.new (o:= .lst ((s.fares.map λf=>f.key).map V.int)) np);have npl:p≠lt:=λe=>by rw [e,ak] at np;cases np
  have np':H p=none:=s1.free np;refine ⟨p,rfl,⟨_, .of ak⟩,eQ (K:=K) (a:=p) (xs:=(s.fares.map λf=>f.key).map V.int) (λn σ H'=>(∃v4,σ= [some (.ref h.a),some (.ref ln),some (.ref lw),some (.ref lt),v4])/\aD H H'/\H' p=some (.lst ((s.fares.map λf=>f.key).map V.int))/\H' lt=some (.lst ((0::(s.fares.length:Int)::(s.fares.take n).flatMap fareNumbers).map V.int))) ⟨⟨_,rfl⟩,s2,ak,?_⟩ (λn σ H' _ zz=> .of zz.2.2.1) ?_ ?_⟩
  ·rw [bK npl.symm,ak,fd.len];rfl
  ·rintro _ _ _ n x σ H2 hx ⟨⟨v4,rfl⟩,s3,Ib,h2⟩;obtain ⟨k,hk,rfl⟩:=ints_get hx;rw [bp] at hk;cases e:s.fares[n]? with
   |none=>rw [e] at hk;cases hk
   |some f=>
    rw [e] at hk;cases hk;have hm:=aH e;obtain ⟨fa,e1,rV,_,lf,_,e2,e3⟩:=fd.xK f.key f ((iU hh.ok).mpr ⟨hm,rfl⟩);refine ⟨_,rfl, .inl ⟨rfl,_, .of h2⟩,_,rfl,aL (hh.g7.mono s3) ⟨_,rfl,h.f,_,rfl, .inl ⟨kvs,az f.key, .inl (s3 _ _ hf),rfl,e1.symm⟩,aL (e2.mono s3) ⟨lt,lf,_,_,rfl,rfl,h2,s3 _ _ e3,?_,⟨_,rfl⟩,aD.put s3 nt,bm Ib npl,?_⟩⟩⟩
    ·have g1:=gN (f:=fareNumbers) (k:=15) (l:=s.fares.take n) λ_ _=>ay _;rw [bc] at g1;rw [ab,ab];simp only [aS];have g2:(fareNumbers f).length=15:=rfl;have:sizeLine=16777216:=af5;omega
    ·rw [ak,di e,cc, <-aP];simp
  ·rintro σ H2 ⟨⟨v4,rfl⟩,s3,Ib,h2⟩;rw [ab,ab,bo] at h2;exact ⟨_,rfl,q H2 lt s3 nt h2⟩
inductive yG (K:aa) (vs:List V) (H:Hp) (Q:VK):Prop
 |mk (h:HA) (s:ag) (fl:List aq) (j:ai) (i e:Int):vs= [.ref h.a, .int i, .int e]->aZ K H h s fl->s.journey=some j->Q (.bl (decide (i<=e)&&decide (e<=(j.segs.length:Int)))) H->yG K vs H Q
def uP (K:aa):Sp:=λvs H Q _=>yG K vs H Q
theorem Hm:ba ["house","first","last"] ["house","first","last"] (aM (top 109)):=fi
theorem IB (D:Dn K mg "is_component" (top 109) ["house","first","last"]) (b:Bl mg):Fn P w K mg base "is_component" 1 ["house","first","last"] (uP K):=by
 refine D.go Hm λf db A outer s H vs Q E hr h=>?_
 ·intro Xc;obtain ⟨h,s,fl,j,i,e,rfl,hh,hj,q⟩:=h;obtain ⟨ja,fj,HW⟩:=hh.il hj;obtain ⟨BQ,l,as,Tr,Gb,hl,hs,ZW⟩:=HW;refine ⟨_,(aA (aX (d7 (dG vm (pv 1) (pv 2) (bS _)) (jD (dG vm (pv 2) (iV b.len (aT (aT (pv 0) rfl) rfl)) (bS _)))))),?_⟩;refine ⟨_,rfl,_,rfl,_,_,rfl,rfl,_,rfl,?_⟩;refine ip (λe1=>?_) (λe1=>cj q (by rw [e1];rfl));refine ⟨_,rfl,_,rfl,aL fj (aL Gb ⟨l,_,rfl, .inl (.of hl),_,_,rfl,rfl,?_⟩)⟩;refine cj q ?_;rw [e1,ab,hs.1];rfl
inductive CN (K:aa) (vs:List V) (H:Hp) (Q:VK):Prop
 |mk (h:HA) (s:ag) (fl:List aq) (j:ai) (i e p q:Int):vs= [.ref h.a, .int i, .int e, .int p, .int q]->aZ K H h s fl->s.journey=some j->Q (.bl ((decide (i<=e)&&decide (e<=(j.segs.length:Int)))&&((decide (p<=q)&&decide (q<=(j.segs.length:Int)))&&decide (e<p)))) H->CN K vs H Q
def Fo (K:aa):Sp:=λvs H Q _=>CN K vs H Q
theorem JY:ba ["house","first","last","second_first","second_last"] ["house","first","last","second_first","second_last"] (aM (top 112)):=fi
theorem LM (D:Dn K mg "are_components_in_order" (top 112) ["house","first","last","second_first","second_last"]) (G:Fn P w K mg base "is_component" 1 ["house","first","last"] (uP K)):Fn P w K mg base "are_components_in_order" 2 ["house","first","last","second_first","second_last"] (Fo K):=by
 refine D.go JY λf db A outer s H vs Q E hr h=>?_
 ·intro Xc;obtain ⟨h,s,fl,j,i,e,p,q',rfl,hh,hj,q⟩:=h;refine ⟨_,(aA (aX (d7 (pc G hr (ae (pv 0) (ae (pv 1) (ae (pv 2) ax)))) (d7 (pc G hr (ae (pv 0) (ae (pv 3) (ae (pv 4) ax)))) (jD (dG xX (pv 2) (pv 3) (bS _))))))),?_⟩;refine ⟨_,rfl,_,rfl,_,rfl,h,s,fl,j,i,e,rfl,hh,hj,_,rfl,?_⟩;refine ip (λe1=>?_) (λe1=>cj q (by rw [e1];rfl));refine ⟨_,rfl,_,rfl,_,rfl,h,s,fl,j,p,q',rfl,hh,hj,_,rfl,?_⟩;refine ip (λe2=>?_) (λe2=>cj q (by rw [e1,e2];rfl));refine ⟨_,rfl,_,rfl,_,_,rfl,rfl,?_⟩;refine cj q ?_;rw [e1,e2];rfl
inductive wx (K:aa) (vs:List V) (H:Hp) (Q:VK):Prop
 |mk (h:HA) (s:ag) (fl:List aq) (j:ai) (af i e:Int):vs= [.ref h.a, .int af, .int i, .int e]->aZ K H h s fl->s.journey=some j->(0<=af/\af<=4)->1<=i->i<=e->e<=(j.segs.length:Int)->(∀(H':Hp) (x:Addr) (B:Addr->Prop),aD H H'->dq K H' B s fl j af (i-1).toNat e.toNat x->Q (.ref x) H')->wx K vs H Q
def rE (K:aa):Sp:=λvs H Q _=>wx K vs H Q
theorem NT:ba ["house","kind","first","last"] ["house","kind","first","last"] (aM (top 110)):=fi
theorem OW (D:Dn K mg "offers_between" (top 110) ["house","kind","first","last"]) (G1:Cl P w K mg base "Component" t.cK 2 ["self","house","first","last"] (y9 K t.cK)) (G2:Cl P w K mg base "Offers" t.im 5 ["self","house","kind","component"] (uM K t.im)):
  Fn P w K mg base "offers_between" 7 ["house","kind","first","last"] (rE K):=by
 refine D.go NT λf db A outer s H vs Q E hr h=>?_
 ·intro Xc;obtain ⟨h,s,fl,j,af,i,e,rfl,hh,hj,hk,h1,h2,h3,q⟩:=h;refine ⟨_,(aA (aX (MX G2 hr (ae (pv 0) (ae (pv 1) (ae (MX G1 hr (ae (pv 0) (ae (bX fU (pv 2) aF) (ae (bX fU (pv 3) aF) ax)))) ax)))))),?_⟩;refine ⟨_,rfl,_,rfl,_,rfl,_,rfl,_,_,rfl,rfl,_,rfl,_,_,rfl,rfl,λx dx nx tD Rp=>?_⟩;refine ⟨x,dx,H,h,s,fl,j,(i-1).toNat,e.toNat,_,_,rfl,by show i-1=_;omega,by show e-1=_;omega,ak,dQ nx tD,nx,hh,hj,by omega,by omega,λH3 s3 c3=>⟨rfl,λy dy ny Xm ney=>?_⟩⟩;refine ⟨y,dy,x,H3,h,s,fl,j,(i-1).toNat,e.toNat,af,_,rfl,ak,dQ ny Xm,ny,hh.mono s3,c3,hj,hk,λH4 s4 o4=>⟨rfl,q H4 y _ (s3.trans s4) o4⟩⟩
end
end Lf
namespace Lf
open Vbahaf (rowLess least price firstOf taxesOf cut pay single bestPair pairsSorted)
def KB (ns rw:List Int):Prop:= ∃af i e:Int,ns= [af,i,e]/\(0<=af/\af<=4)/\1<=i/\1<=e
def yj (s:ag) (j:ai) (ns rw:List Int):List Int:=
 if ns.getD 2 0<ns.getD 1 0∨(j.segs.length:Int)<ns.getD 2 0 then [-4]
 else
  let x:=pairsSorted ((s.fares.filter λf=>single j (ns.getD 0 0) f (cut j (ns.getD 1 0-1).toNat (ns.getD 2 0).toNat)).map λf=> [pay s (ns.getD 0 0) f (cut j (ns.getD 1 0-1).toNat (ns.getD 2 0).toNat),f.key])
  0::(x.length:Int)::x.flatMap λy=>y
def KC (ns rw:List Int):Prop:= ∃af i e p q:Int,ns= [af,i,e,p,q]/\(0<=af/\af<=4)/\1<=i/\1<=e/\1<=p/\1<=q
def yk (s:ag) (j:ai) (ns rw:List Int):List Int:=
 if ns.getD 2 0<ns.getD 1 0∨ns.getD 3 0<=ns.getD 2 0∨ns.getD 4 0<ns.getD 3 0∨(j.segs.length:Int)<ns.getD 4 0 then [-4]
 else match bestPair s j (ns.getD 0 0) (cut j (ns.getD 1 0-1).toNat (ns.getD 2 0).toNat) (cut j (ns.getD 3 0-1).toNat (ns.getD 4 0).toNat) with
  |none=> [-7]
  |some r=>0::r
section
theorem iO:ba ["house","numbers","row","offers","told","paid","key","fare"] ["house","numbers","row"] (aM (top 111)):=fi
theorem Ls (D:Dn K mg "tell_singles" (top 111) ["house","numbers","row"]) (b:Bl mg) (c:Cs mg) (G1:Fn P w K mg base "is_component" 1 ["house","first","last"] (uP K)) (G2:Fn P w K mg base "offers_between" 7 ["house","kind","first","last"] (rE K)):
  Fn P w K mg base "tell_singles" 8 ["house","numbers","row"] (fy K KB yj):=by
 refine D.go iO λf db A outer s H vs Q E hr h=>?_
 ·intro Xc;obtain ⟨h,s,fl,j,ln,lw,ns,rw,rfl,hh,hj,hn,hw,⟨af,i,e,rfl,hk,h1,h2⟩,q⟩:=h;refine ⟨_,(am (cE (ii (eK (pc G1 hr (ae (pv 0) (ae (bf aY (pv 1) aF (λ_ _=>rfl)) (ae (bf aY (pv 1) aF (λ_ _=>rfl)) ax))))))
    (aA (aX (bJ (ae (kj c.sO) ax))))
    bI)
   (am (st 3 iO.nd (pc G2 hr (ae (pv 0) (ae (bf aY (pv 1) aF (λ_ _=>rfl)) (ae (bf aY (pv 1) aF (λ_ _=>rfl)) (ae (bf aY (pv 1) aF (λ_ _=>rfl)) ax))))))
   (am (st 4 iO.nd (bJ (ae aF (ae (iV b.len (aT (pv 3) rfl)) ax))))
   (am (dk PassesOwn.never rfl (cC (dU wc rfl b.sorted jy (ae (ir rfl iO.nd (cC (aT (pv 3) rfl)) (cT (own:= [("paid",5),("fare",7)]) (by kernel_rfl))
    (λ_ _ _ _ _=>(gT K (n:=2) rfl (cF (gn 5 iO.nd) (cF (gn 7 iO.nd) gX)))) (λ_ _ _ _ _=>eY)
    (λ_ _ _ _ _=>(fB (ae (pv 5) (ae (eF K (pv 7)) ax))))) ax))) (km rfl (cF (gn 5 iO.nd) (cF (gn 6 iO.nd) gX)))
    (aA (eD (EL (pv 4) (bJ (ae (pv 5) (ae (pv 6) ax)))))))
   (aA (aX (pv 4))))))),?_⟩
  refine NL ?_
  intros
  refine ⟨_,rfl,_,rfl,ln,_,1,_,rfl,rfl, .of hn,at_of (j:=1) rfl rfl,_,rfl,ln,_,2,_,rfl,rfl, .of hn,at_of (j:=2) rfl rfl,h,s,fl,j,i,e,rfl,hh,hj,_,rfl,?_⟩;by_cases hc:i<=e/\e<=(j.segs.length:Int)
  ·rw [decide_eq_true hc.1,decide_eq_true hc.2];refine ⟨_,rfl,_,rfl,ln,_,0,_,rfl,rfl, .of hn,at_of (j:=0) rfl rfl,_,rfl,ln,_,1,_,rfl,rfl, .of hn,at_of (j:=1) rfl rfl,_,rfl,ln,_,2,_,rfl,rfl, .of hn,at_of (j:=2) rfl rfl,h,s,fl,j,af,i,e,rfl,hh,hj,hk,h1,hc.1,hc.2,λH1 x B s1 ho=>?_⟩;obtain ⟨ls,Wu,nb,ps,hl,hp⟩:=ho.singles;have M9:=(hh.perm.filter λf=>single j af f (cut j (i-1).toNat e.toNat)).map λf=> [pay s af f (cut j (i-1).toNat e.toNat),f.key]
   have xm:(fl.filter λf=>single j af f (cut j (i-1).toNat e.toNat)).length<=60:=aV (aO _ _) (by rw [hh.perm.length_eq];exact hh.ok.fl);have eg:yj s j [af,i,e] rw=0::((pairsSorted ((s.fares.filter λf=>single j af f (cut j (i-1).toNat e.toNat)).map λf=> [pay s af f (cut j (i-1).toNat e.toNat),f.key])).length:Int)::(pairsSorted ((s.fares.filter λf=>single j af f (cut j (i-1).toNat e.toNat)).map λf=> [pay s af f (cut j (i-1).toNat e.toNat),f.key])).flatMap λy=>y:=by
    unfold yj;exact if_neg (by show¬(e<i∨(j.segs.length:Int)<e);omega)
   rw [eg] at q;generalize ((s.fares.filter λf=>single j af f (cut j (i-1).toNat e.toNat)).map λf=> [pay s af f (cut j (i-1).toNat e.toNat),f.key])=target at M9 q;generalize (fl.filter λf=>single j af f (cut j (i-1).toNat e.toNat))=fs at hp M9 xm;refine ⟨_,rfl,aL Wu ⟨ls,_,rfl, .inl (.of hl),(by show 2<=sizeLine;decide),λlt Ro=>?_⟩⟩;have nt:H lt=none:=s1.free Ro;have s2:aD H1 (upd H1 lt (.lst [.int 0, .int ((ps.map V.ref).length:Nat)])):=aD.new Ro;have ht2:(upd H1 lt (.lst [.int 0, .int ((ps.map V.ref).length:Nat)])) lt=some (.lst ([0,(fs.length:Int)].map V.int)):=by rw [ak,ab,hp.1];rfl
   generalize (upd H1 lt (.lst [.int 0, .int ((ps.map V.ref).length:Nat)]))=H2 at s2 ht2;refine ⟨_,rfl,aL (Wu.mono s2) ⟨ls,rfl,⟨_, .of (s2 _ _ hl)⟩,λD hD=>fG (K:=K) (a:=ls) (xs:=ps.map V.ref) (λn H'=>aD H2 H'/\pT H' D ((fs.take n).map λf=> [pay s af f (cut j (i-1).toNat e.toNat),f.key])) ⟨aD.new hD,[],ak,bQ.nil⟩ (λn H' _ zz=> .of (zz.1 _ _ (s2 _ _ hl))) ?_ ?_⟩⟩
   ·rintro _ _ _ _ n x H3 hx ⟨sm,qs,hq,mS⟩;obtain ⟨p,RS,rfl⟩:=b0 hx;obtain ⟨f,hf,fa,tp,rV⟩:=hp.get' RS;refine ⟨p,_,rfl, .of (sm _ _ (s2 _ _ tp)),rfl,_,_,rfl,_,_,rfl,rfl,rfl,?_⟩;refine ⟨_,rfl,_,rfl,aL (rV.mono (s2.trans sm)).key ⟨(by show 2<=sizeLine;decide),λp1 Ez=>?_⟩⟩;refine ⟨qs.map V.ref,bm hq (aG hq Ez),?_,aD.put (sm.trans (aD.new Ez)) hD,?_⟩
    ·rw [ab,mS.1,ab,bc];exact cu (aV (dj _ _) xm) (by decide)
    ·rw [di hf,aP];exact pT.put rfl hq mS Ez
   ·rintro H3 ⟨s3,qs,hq,mS⟩;rw [ab,hp.1,bo] at mS;refine ⟨D,qs,rfl, .of hq,λp F5=>?_,λUS lq ml sI Xy=>?_⟩
    ·obtain ⟨k,Ie⟩:=dE.mp F5;obtain ⟨r,yh,e'⟩:=mS.get' Ie;obtain ⟨f,_,rfl⟩:=aj.mp (aH yh);exact ⟨_,by simp,e'⟩
    ·obtain ⟨R',R8,Ow⟩:=bQ.perm ml.symm mS;have O0:US.map (rowAt H3)=R':=by
      refine MT λi=>?_;rw [bp];cases e:US[i]? with
      |none=>
       have:R'[i]?=none:=by rw [kI] at e⊢;rw [<-Ow.1];exact e
       rw [this];rfl
      |some p=>
       obtain ⟨x,hx,hh⟩:=Ow.get' e;rw [hx,cY,u6 hh]
     rw [O0] at sI;have eR:=AV (R8.symm.trans M9) sI;rw [<-eR] at q;have hlen:R'.length=fs.length:=by rw [<-R8.length_eq,ab]
     rw [hlen] at q;have two: ∀r∈R', ∃a k,r= [a,k]:=λr yh=>by
      obtain ⟨f,_,rfl⟩:=aj.mp (R8.mem_iff.mpr yh);exact ⟨_,_,rfl⟩
     have ZJ:=s3 _ _ ht2;have nql:lq≠lt:=(aG ZJ Xy).symm;have s4:aD H3 (upd H3 lq (.lst (US.map V.ref))):=aD.new Xy;refine ⟨lq,rfl,⟨_, .of ak⟩,eQ (K:=K) (a:=lq) (xs:=US.map V.ref) (λn σ H'=>(∃v5 v6 v7,σ= [some (.ref h.a),some (.ref ln),some (.ref lw),some (.ref x),some (.ref lt),v5,v6,v7])/\dB lt (upd H3 lq (.lst (US.map V.ref))) H'/\H' lt=some (.lst ((0::(fs.length:Int)::(R'.take n).flatMap λy=>y).map V.int))) ⟨⟨_,_,_,rfl⟩,λ_ _ _ z=>z,s4 _ _ ZJ⟩ (λn σ H' _ zz=> .of (zz.2.1 _ _ nql ak)) ?_ ?_⟩
     ·rintro _ _ _ n y σ H4 hy ⟨⟨v5,v6,v7,rfl⟩,B4,Tj⟩;obtain ⟨p,RS,rfl⟩:=b0 hy;obtain ⟨r,yh,tp⟩:=Ow.get' RS;obtain ⟨a,k,rfl⟩:=two r (aH yh);have T1:=B4 _ _ (i8 tp ZJ rfl) (s4 _ _ tp);refine ⟨p,_,rfl, .of T1,rfl,_,_,rfl,_,_,rfl,rfl,?_⟩;refine ⟨_,rfl, .inl ⟨rfl,_, .of Tj⟩,_,rfl,_,rfl,(by show 2<=sizeLine;decide),λl2 n2=>?_⟩;have U5:lt≠l2:=aG Tj n2;refine ⟨lt,l2,_,_,rfl,rfl,bm Tj U5,ak,?_,⟨_,_,_,rfl⟩,(B4.trans (aD.but (aD.new n2))).trans dB.upd,?_⟩
      ·have VU:(R'.take n).length<=60:=by rw [bc];omega
       have g1:=gN (f:=λy:List Int=>y) (k:=2) (l:=R'.take n) λr yh=>by
        obtain ⟨a,k,rfl⟩:=two r (GS yh);exact ay _
       rw [ab];simp only [aS,dA];have:sizeLine=16777216:=af5;omega
      ·rw [ak,di yh,cc];simp
     ·rintro σ H4 ⟨⟨v5,v6,v7,rfl⟩,B4,Tj⟩;rw [ab,Ow.1,bo] at Tj;exact ⟨_,rfl,q H4 lt (dB.same ((s1.trans s2).trans (s3.trans s4)) nt B4) nt Tj⟩
  ·have e0:(decide (i<=e)&&decide (e<=(j.segs.length:Int)))=false:=by
    rw [i3];by_cases z:i<=e
    ·exact .inr (decide_eq_false λy=>hc ⟨z,y⟩)
    ·exact .inl (decide_eq_false z)
   rw [e0];refine ⟨(by show 1<=sizeLine;decide),λl hl=>q _ l (aD.new hl) hl ?_⟩;have eg:yj s j [af,i,e] rw= [-4]:=by
    unfold yj;exact if_pos (by show e<i∨(j.segs.length:Int)<e;omega)
   rw [ak,eg];rfl
theorem qr:ba ["house","numbers","row","out_offers","home_offers","found"] ["house","numbers","row"] (aM (top 113)):=fi
theorem Lv (D:Dn K mg "tell_pair" (top 113) ["house","numbers","row"]) (b:Bl mg) (c:Cs mg) (G1:Fn P w K mg base "are_components_in_order" 2 ["house","first","last","second_first","second_last"] (Fo K)) (G2:Fn P w K mg base "offers_between" 7 ["house","kind","first","last"] (rE K)) (G3:Fn P w K mg base "least_return" 3 ["house","out_offers","home_offers"] (pB K)):
  Fn P w K mg base "tell_pair" 8 ["house","numbers","row"] (fy K KC yk):=by
 refine D.go qr λf db A outer s H vs Q E hr h=>?_
 ·intro Xc;obtain ⟨h,s,fl,j,ln,lw,ns,rw,rfl,hh,hj,hn,hw,⟨af,i,e,p,q',rfl,hk,h1,h2,h3,h4⟩,q⟩:=h;refine ⟨_,(am (cE (ii (eK (pc G1 hr (ae (pv 0) (ae (bf aY (pv 1) aF (λ_ _=>rfl)) (ae (bf aY (pv 1) aF (λ_ _=>rfl)) (ae (bf aY (pv 1) aF (λ_ _=>rfl)) (ae (bf aY (pv 1) aF (λ_ _=>rfl)) ax))))))))
    (aA (aX (bJ (ae (kj c.sO) ax))))
    bI)
   (am (st 3 qr.nd (pc G2 hr (ae (pv 0) (ae (bf aY (pv 1) aF (λ_ _=>rfl)) (ae (bf aY (pv 1) aF (λ_ _=>rfl)) (ae (bf aY (pv 1) aF (λ_ _=>rfl)) ax))))))
   (am (st 4 qr.nd (pc G2 hr (ae (pv 0) (ae (bf aY (pv 1) aF (λ_ _=>rfl)) (ae (bf aY (pv 1) aF (λ_ _=>rfl)) (ae (bf aY (pv 1) aF (λ_ _=>rfl)) ax))))))
   (am (st 5 qr.nd (pc G3 hr (ae (pv 0) (ae (pv 3) (ae (pv 4) ax)))))
   (am (cE (fT (jE (pv 5)))
    (aA (aX (bJ (ae (kj c.qQ) ax))))
    bI)
   (aA (aX (bX pJ (bJ (ae aF ax)) (xW Aa rfl b.list uq (ae (pv 5) ax)))))))))),?_⟩
  refine NK ?_
  intros
  refine ⟨_,rfl,_,rfl,ln,_,1,_,rfl,rfl, .of hn,at_of (j:=1) rfl rfl,_,rfl,ln,_,2,_,rfl,rfl, .of hn,at_of (j:=2) rfl rfl,_,rfl,ln,_,3,_,rfl,rfl, .of hn,at_of (j:=3) rfl rfl,_,rfl,ln,_,4,_,rfl,rfl, .of hn,at_of (j:=4) rfl rfl,h,s,fl,j,i,e,p,q',rfl,hh,hj,_,rfl,?_⟩;by_cases hc:i<=e/\e<p/\p<=q'/\q'<=(j.segs.length:Int)
  ·obtain ⟨c1,c2,c3,c4⟩:=hc;rw [decide_eq_true c1,decide_eq_true c2,decide_eq_true c3,decide_eq_true c4,decide_eq_true (by omega:e<=(j.segs.length:Int))];have eg:yk s j [af,i,e,p,q'] rw=match bestPair s j af (cut j (i-1).toNat e.toNat) (cut j (p-1).toNat q'.toNat) with
     |none=> [-7]
     |some r=>0::r:=by
    unfold yk;exact if_neg (by show¬(e<i∨p<=e∨q'<p∨(j.segs.length:Int)<q');omega)
   rw [eg] at q;refine ⟨_,rfl,_,rfl,ln,_,0,_,rfl,rfl, .of hn,at_of (j:=0) rfl rfl,_,rfl,ln,_,1,_,rfl,rfl, .of hn,at_of (j:=1) rfl rfl,_,rfl,ln,_,2,_,rfl,rfl, .of hn,at_of (j:=2) rfl rfl,h,s,fl,j,af,i,e,rfl,hh,hj,hk,h1,c1,by omega,λH1 x B s1 ho=>?_⟩;have K6:=s1 _ _ hn;refine ⟨_,rfl,_,rfl,ln,_,0,_,rfl,rfl, .of K6,at_of (j:=0) rfl rfl,_,rfl,ln,_,3,_,rfl,rfl, .of K6,at_of (j:=3) rfl rfl,_,rfl,ln,_,4,_,rfl,rfl, .of K6,at_of (j:=4) rfl rfl,h,s,fl,j,af,p,q',rfl,hh.mono s1,hj,hk,h3,c3,c4,λH2 y B' s2 Do=>?_⟩;refine ⟨_,rfl,_,rfl,_,rfl,h,s,fl,j,af,x,y,(i-1).toNat,e.toNat,(p-1).toNat,q'.toNat,B,B',rfl,hh.mono (s1.trans s2),hj,ho.mono s2,Do,λH3 s3 hb=>?_,λH3 z a k m s3 hb tz=>?_⟩
   ·have wI:=(s1.trans s2).trans s3;rw [hb] at q;exact ⟨_,rfl,_,rfl,(by show 1<=sizeLine;decide),λl hl=>q _ l (wI.trans (aD.new hl)) (wI.free hl) ak⟩
   ·have wI:=(s1.trans s2).trans s3;rw [hb] at q;refine ⟨_,rfl,_,rfl,?_⟩;refine ⟨(by show 1<=sizeLine;decide),λl0 n0=>⟨_,rfl,z,_,rfl, .inr (.of (aD.new n0 _ _ tz)),λl1 n1=>?_⟩⟩;have s4:aD H3 (upd H3 l0 (.lst [.int 0])):=aD.new n0;have s5:=aD.new (o:= .lst [.int a, .int k, .int m]) n1;exact ⟨l0,l1,_,_,rfl,rfl,s5 _ _ ak,ak,(by show 1+3<=sizeLine;decide),λlz nz=>q _ lz (((wI.trans s4).trans s5).trans (aD.new nz)) (((wI.trans s4).trans s5).free nz) ak⟩
  ·have e0:((decide (i<=e)&&decide (e<=(j.segs.length:Int)))&&((decide (p<=q')&&decide (q'<=(j.segs.length:Int)))&&decide (e<p)))=false:=by
    rw [<-Bool.not_eq_true];intro z;simp only [aU,decide_eq_true_eq] at z;exact hc ⟨z.1.1,z.2.2,z.2.1.1,z.2.1.2⟩
   rw [e0];refine ⟨(by show 1<=sizeLine;decide),λl hl=>q _ l (aD.new hl) hl ?_⟩;have eg:yk s j [af,i,e,p,q'] rw= [-4]:=by
    unfold yk;exact if_pos (by show e<i∨p<=e∨q'<p∨(j.segs.length:Int)<q';omega)
   rw [ak,eg];rfl
end
end Lf
namespace Lf
open Vbahaf (rowLess least price firstOf taxesOf)
def FO (ns rw:List Int):Prop:=rw.length=5/\∀x∈rw,0<=x/\x<=9
def PP (s:ag) (j:ai) (l:List Int) (k:Nat):Option (Int×Option (List Int)):=if l.getD k 0=0 then none else some (l.getD k 0,price s j (k:Int))
def rS (s:ag) (j:ai) (ns l:List Int):List Int:=
 let xs:=(bv 5).filterMap (PP s j l)
 if (xs.all λx=>x.2.isSome)=false then [-7]
 else [0,(xs.map λx=>x.1*((x.2.getD []).headD 0)).foldl (λa b=>a+b) 0,(l.foldl (λa b=>a+b) 0)*taxesOf s j]
def lT (s:ag) (j:ai) (l:List Int) (m:Nat):Int:=(((bv m).filterMap (PP s j l)).map λx=>x.1*((x.2.getD []).headD 0)).sum
def Y5 (s:ag) (j:ai) (l:List Int) (m:Nat):Prop:= ∀k,k<m->¬l.getD k 0=0->(price s j (k:Int)).isSome=true
theorem By {s:ag} {j:ai} {l:List Int} {m:Nat} (h:l.getD m 0=0):lT s j l (m+1)=lT s j l m:=by
 unfold lT;rw [dW,gg];have: [m].filterMap (PP s j l)= []:=by
  rw [cW];unfold PP;rw [if_pos h];rfl
 rw [this,dc]
theorem Bx {s:ag} {j:ai} {l:List Int} {m:Nat} {r:List Int} (h: ¬l.getD m 0=0) (hp:price s j (m:Int)=some r):lT s j l (m+1)=lT s j l m+l.getD m 0*r.headD 0:=by
 unfold lT;rw [dW,gg];have: [m].filterMap (PP s j l)= [(l.getD m 0,some r)]:=by
  rw [cW];unfold PP;rw [if_neg h,hp];rfl
 rw [this,aP,Pr];simp
theorem Us {l:List Int} (h5:l.length=5) (h9: ∀x∈l,0<=x/\x<=9): -(2^64)<l.sum/\l.sum<2^64:=by
 match l,h5,h9 with
 | [a,b,c,d,e],_,h9=>
  have h1:=h9 a (by simp);have h2:=h9 b (by simp);have h3:=h9 c (by simp);have h4:=h9 d (by simp);have h5:=h9 e (by simp);simp only [fe,List.sum_nil];omega
section
theorem jt:ba ["house","numbers","row","paid","kind","many","total"] ["house","numbers","row"] (aM (top 108)):=fi
theorem Ip (D:Dn K mg "tell_party" (top 108) ["house","numbers","row"]) (b:Bl mg) (c:Cs mg) (G1:Fn P w K mg base "least_total" 10 ["house","kind"] (Fg K)) (G2:Fn P w K mg base "journey_taxes" 1 ["house"] (y6 K)):
  Fn P w K mg base "tell_party" 11 ["house","numbers","row"] (fy K FO rS):=by
 refine D.go jt λf db A outer s H vs Q E hr h=>?_
 ·intro Xc;obtain ⟨h,s,fl,j,ln,lw,ns,l,rfl,hh,hj,hn,hw,⟨h5,h9⟩,q⟩:=h;refine ⟨_,(am (st 3 jt.nd aF)
   (am (dk PassesOwn.never rfl (FH rfl b.enumerate (ae (pv 2) ax)) (km rfl (cF (gn 4 jt.nd) (cF (gn 5 jt.nd) gX)))
    (aA (cE (cB BA (pv 5) aF (bS _))
    (am (st 6 jt.nd (pc G1 hr (ae (pv 0) (ae (pv 4) ax))))
   (am (cE (fT (jE (pv 6)))
    (aA (aX (bJ (ae (kj c.qQ) ax))))
    bI)
   (aA (st 3 jt.nd (bX fD (pv 3) (bX vk (pv 5) (pv 6)))))))
    bI)))
   (aA (aX (bJ (ae aF (ae (pv 3) (ae (bX vk (dU (zX rfl) rfl b.sum hX (ae (pv 2) ax)) (pc G2 hr (ae (pv 0) ax))) ax)))))))),?_⟩
  refine qo ?_
  intros
  refine ⟨_,rfl,lw,_,rfl, .of hw,l5 (n:=5) (λm σ H'=>(∃v4 v5 v6,σ= [some (.ref h.a),some (.ref ln),some (.ref lw),some (.int (lT s j l m)),v4,v5,v6])/\aD H H'/\Y5 s j l m)
   ⟨⟨_,_,_,rfl⟩,aD.refl H,λk hk=>absurd hk (dZ _)⟩ (λm σ H' hm zz=>?_) (λσ H' zz=>⟨_, .of (zz.2.1 _ _ hw),by rw [ab,h5];exact ay _⟩) ?_ ?_⟩
  ·obtain ⟨x,hx⟩: ∃x,l[m]?=some x:=⟨_,ao (by omega)⟩
   exact ⟨_,_, .of (zz.2.1 _ _ hw),ik hx⟩
  ·rintro _ _ _ m σ H1 y QG hm ⟨⟨v4,v5,v6,rfl⟩,s1,ok⟩ ⟨T,z,rfl,hT,rfl,hz⟩;obtain ⟨x,hx,rfl⟩:=ints_get (hz _ (.of (s1 _ _ hw)));have Vq:l.getD m 0=x:=by rw [bh,hx];rfl
   obtain ⟨h0,_⟩:=h9 x (aH hx);have s2:aD H1 (upd H1 T (.tup [.int (m:Nat), .int x])):=aD.new hT;refine ⟨T,_,rfl, .of ak,rfl,_,_,rfl,_,_,rfl,rfl,?_⟩;refine ⟨_,rfl,_,_,rfl,rfl,_,rfl,?_⟩;by_cases Ox:0<x
   ·refine dT Ox ?_;refine ⟨_,rfl,_,rfl,h,s,fl,j,(m:Int),rfl,hh.mono (s1.trans s2),hj,by omega,λH2 s3=>?_⟩;have wI:=(s1.trans s2).trans s3;unfold Nw;cases e:price s j (m:Int) with
    |none=>
     refine ⟨_,rfl,_,rfl,(by show 1<=sizeLine;decide),λlz nz=>q _ lz (wI.trans (aD.new nz)) (wI.free nz) ?_⟩;have eg:rS s j ns l= [-7]:=by
      unfold rS;refine if_pos ?_;rw [iA];refine ⟨(x,none),bU.mpr ⟨m,bE.mpr hm,?_⟩,by simp⟩;unfold PP;rw [if_neg (by omega),Vq,e]
     rw [ak,eg];rfl
    |some r=>
     refine ⟨_,rfl,_,rfl,?_⟩;refine ⟨_,rfl,_,rfl,_,rfl,_,_,rfl,rfl, .inl ⟨by omega,by omega⟩,_,_,rfl,rfl,⟨some (.int (m:Int)),some (.int x),some (.int (r.headD 0)),?_⟩,wI,?_⟩
     ·rw [Bx (by omega) e,Vq];rfl
     ·intro k hk fZ;by_cases ek:k=m
      ·subst ek;rw [e];rfl
      ·exact ok k (by omega) fZ
   ·refine dF Ox ?_;have Zy:l.getD m 0=0:=by omega
    refine ⟨⟨_,_,_,by rw [By Zy];rfl⟩,s1.trans s2,λk hk fZ=>?_⟩;by_cases ek:k=m
    ·subst ek;exact absurd Zy fZ
    ·exact ok k (by omega) fZ
  ·rintro σ H1 ⟨⟨v4,v5,v6,rfl⟩,s1,ok⟩;refine ⟨_,rfl,_,rfl,lw,l,rfl, .of (s1 _ _ hw),_,rfl,h,s,fl,j,rfl,hh.mono s1,hj,λH2 s2=>⟨_,_,rfl,rfl, .inl (Us h5 h9),(by show 3<=sizeLine;decide),λlz nz=>q _ lz ((s1.trans s2).trans (aD.new nz)) ((s1.trans s2).free nz) ?_⟩⟩;have eg:rS s j ns l= [0,lT s j l 5,l.sum*taxesOf s j]:=by
    unfold rS;show (if _=false then _ else _)=_;rw [if_neg]
    ·unfold lT;rw [k4,k4,oi,oi]
    ·rw [lG,bP];intro x hx;obtain ⟨k,hk,e⟩:=bU.mp hx;unfold PP at e;by_cases z:l.getD k 0=0
     ·rw [if_pos z] at e;cases e
     ·rw [if_neg z] at e;cases e;exact ok k (bE.mp hk) z
   rw [ak,eg];rfl
end
end Lf
namespace Lf
open Vbahaf (threes risesTo spansOf partnersRight fareOf)
abbrev gI:=Int×Int×Int
def Va (x:gI):List V:= [.int x.1, .int x.2.1, .int x.2.2]
def fM (H:Hp) (lt:Addr) (l:List gI):Prop:= ∃ps:List Addr,H lt=some (.lst (ps.map V.ref))/\bQ (λp x=>H p=some (.lst (Va x))) ps l
theorem fM.mono {H H':Hp} {lt:Addr} {l:List gI} (h:fM H lt l) (e:aD H H'):fM H' lt l:=by
 obtain ⟨ps,h1,h2⟩:=h;exact ⟨ps,e _ _ h1,h2.mono λ_ _ z=>e _ _ z⟩
theorem uG: ∀{rw:List Int} {k:Nat} {x:gI},(threes rw)[k]?=some x->3*k+3<=rw.length/\(rw.drop (3*k)).take 3= [x.1,x.2.1,x.2.2]
 | [],k,x,h=>by simp [threes] at h
 | [_],k,x,h=>by simp [threes] at h
 | [_,_],k,x,h=>by simp [threes] at h
 |a::b::c::r,0,x,h=>by
  have h:(a,b,c)=x:=by simpa [threes] using h
  subst h;exact ⟨by simp,rfl⟩
 |a::b::c::r,k+1,x,h=>by
  have h:(threes r)[k]?=some x:=by simpa [threes] using h
  obtain ⟨h1,h2⟩:=uG h;refine ⟨by simp only [aS];omega,?_⟩;rw [show 3*(k+1)=3*k+3 by omega];exact h2
theorem lM: ∀(rw:List Int),(threes rw).length=rw.length/3
 | []=>rfl
 | [_]=>by simp [threes]
 | [_,_]=>by simp [threes]
 |a::b::c::r=>by
  show (threes r).length+1=(r.length+3)/3;rw [lM r];omega
theorem rg3 {n:Nat} (h:n<=60) (h3:n%3=0):RgC 0 (n:Int) 3 (n/3):=by
 have key: ∀n:Nat,n<61->n%3=0->Builtin.Range.small 0 (n:Int) 3=true/\Builtin.Range.rangeSize 0 (n:Int) 3=((n/3:Nat):Int):=by decide+kernel
 obtain ⟨a,b⟩:=key n (by omega) h3;exact ⟨by decide,by decide,a,b⟩
inductive CK (vs:List V) (H:Hp) (Q:VK):Prop
 |mk (lw:Addr) (rw:List Int):vs= [.ref lw]->H lw=some (.lst (rw.map V.int))->rw.length<=60->rw.length%3=0->(∀(H':Hp) (lt:Addr),aD H H'->H lt=none->fM H' lt (threes rw)->Q (.ref lt) H')->CK vs H Q
def Fk:Sp:=λvs H Q _=>CK vs H Q
inductive MG (K:aa) (vs:List V) (H:Hp) (Q:VK):Prop
 |mk (h:HA) (s:ag) (fl:List aq) (j:ai) (lt:Addr) (l:List gI):vs= [.ref h.a, .ref lt]->aZ K H h s fl->s.journey=some j->fM H lt l->Q (.bl (risesTo j.segs.length 0 l)) H->MG K vs H Q
def PF (K:aa):Sp:=λvs H Q _=>MG K vs H Q
inductive CG (K:aa) (vs:List V) (H:Hp) (Q:VK):Prop
 |mk (h:HA) (s:ag) (fl:List aq) (lt:Addr) (l:List gI):vs= [.ref h.a, .ref lt]->aZ K H h s fl->fM H lt l->l.length<=20->(∀H',aD H H'->Q (.bl (l.all λx=>(fareOf s x.2.1).isSome)) H')->CG K vs H Q
def Fi (K:aa):Sp:=λvs H Q _=>CG K vs H Q
def nc (l:List gI) (i:Nat):Bool:=match l[i]? with
 |none=>true
 |some x=>decide (x.2.2=0)||(decide (1<=x.2.2)&&(decide (x.2.2≠(i:Int)+1)&&(match l[(x.2.2-1).toNat]? with
  |some y=>decide (y.2.2=(i:Int)+1)
  |none=>false)))
theorem vi (l:List gI):partnersRight l=(bv l.length).all (nc l):=rfl
inductive yD (vs:List V) (H:Hp) (Q:VK):Prop
 |mk (lt:Addr) (l:List gI) (i:Nat) (z:Int):vs= [.ref lt, .int z]->z=(i:Int)+1->fM H lt l->i<l.length->(∀x∈l,0<=x.2.2)->Q (.bl (nc l i)) H->yD vs H Q
def AS:Sp:=λvs H Q _=>yD vs H Q
inductive ww (vs:List V) (H:Hp) (Q:VK):Prop
 |mk (lt:Addr) (l:List gI):vs= [.ref lt]->fM H lt l->(∀x∈l,0<=x.2.2)->l.length<=20->(∀H',aD H H'->Q (.bl (partnersRight l)) H')->ww vs H Q
def xI:Sp:=λvs H Q _=>ww vs H Q
section
theorem uY:ba ["row","at"] ["row"] (aM (top 72)):=fi
theorem LD (D:Dn K mg "split_threes" (top 72) ["row"]) (b:Bl mg) (c:Cs mg):Fn P w K mg base "split_threes" 1 ["row"] Fk:=by
 refine D.go uY λf db A outer s H vs Q E hr h=>?_
 ·intro Xc;obtain ⟨lw,rw,rfl,hw,xm,h3,q⟩:=h;refine ⟨_,(aA (aX (ir rfl uY.nd (xV rfl b.range (ae aF (ae (iV b.len (pv 0)) (ae (kj c.oX) ax)))) (cT (own:= [("at",1)]) (by kernel_rfl))
    (λ_ _ _ _ _=>(gn 1 uY.nd)) (λ_ _ _ _ _=>eY)
    (λ_ _ _ _ _=>(WA K (pv 0) (iJ (pv 1)) (iJ (bX fD (pv 1) (kj c.oX)))))))),?_⟩
  refine ⟨_,rfl,lw,_,rfl, .inl (.of hw),0,_,3,rw.length/3,rfl,by rw [ab];exact rg3 xm h3,λD hD=>Et (n:=rw.length/3) (λn H'=>aD H H'/\∃ps:List Addr,H' D=some (.lst (ps.map V.ref))/\bQ (λp x=>p≠D/\H' p=some (.lst (Va x))) ps ((threes rw).take n)) ⟨aD.new hD,[],ak,bQ.nil⟩ (λi H' hi _=>hi) (λH' _=>ay _) ?_ ?_⟩
  ·rintro _ _ _ _ n H1 y QG hn ⟨s1,ps,hp,gE⟩ ⟨rfl,rfl⟩;obtain ⟨x,hx⟩: ∃x,(threes rw)[n]?=some x:=⟨_,ao (by rw [lM];exact hn)⟩
   obtain ⟨g1,g2⟩:=uG hx;refine ⟨rfl,_,rfl,_,rfl,_,rfl,_,rfl,_,_,rfl,rfl,_,rfl,lw,_,rfl, .of (s1 _ _ hw),λp np=>?_⟩;rw [oJ (i:=3*n) (e:=3*n+3) (by omega) (by omega) (by omega) (by omega),show 3*n+3-3*n=3 by omega,g2];have Te:D≠p:=aG hp np;refine ⟨ps.map V.ref,bm hp Te,?_,aD.put (s1.trans (aD.new np)) hD,ps++ [p],by rw [ak,dP],?_⟩
   ·rw [ab,gE.1,bc];have:sizeLine=16777216:=af5;omega
   ·rw [di hx];exact (gE.mono λa b z=>⟨z.1,vH z.2 np z.1⟩).snoc ⟨Te.symm,bm ak Te.symm⟩
  ·rintro H1 ⟨s1,ps,hp,gE⟩;rw [ck (by rw [lM];exact ay _)] at gE;exact q H1 D s1 hD ⟨ps,hp,gE.mono λ_ _ z=>z.2⟩
theorem zg:ba ["house","threes","last","three"] ["house","threes"] (aM (top 73)):=fi
theorem Sn (D:Dn K mg "is_cut_right" (top 73) ["house","threes"]) (b:Bl mg):Fn P w K mg base "is_cut_right" 1 ["house","threes"] (PF K):=by
 refine D.go zg λf db A outer s H vs Q E hr h=>?_
 ·intro Xc;obtain ⟨h,s,fl,j,lt,l,rfl,hh,hj,⟨ps,hl,gE⟩,q⟩:=h;obtain ⟨ja,fj,HW⟩:=hh.il hj;obtain ⟨BQ,lsg,as,Tr,Gb,Z3,hs,ZW⟩:=HW;refine ⟨_,(am (st 2 zg.nd aF)
   (am (dk PassesOwn.never rfl (cC (pv 1)) (gn 3 zg.nd)
    (am (cE (cB vm (bf aY (pv 3) aF (λ_ _=>rfl)) (pv 2) (bS _))
    (aA (aX iu))
    bI)
   (aA (st 2 zg.nd (bf aY (pv 3) aF (λ_ _=>rfl))))))
   (aA (aX (dG fV (pv 2) (iV b.len (aT (aT (pv 0) rfl) rfl)) (bS _)))))),?_⟩
  refine qo ?_
  intros
  refine ⟨_,rfl,lt,rfl,⟨_, .of hl⟩,eQ (K:=K) (a:=lt) (xs:=ps.map V.ref) (λm σ H'=>H'=H/\∃(la:Int) (v3:Option V),σ= [some (.ref h.a),some (.ref lt),some (.int la),v3]/\risesTo j.segs.length 0 l=risesTo j.segs.length la (l.drop m)) ⟨rfl,0,_,rfl,rfl⟩ (λm σ H' _ zz=>by rw [zz.1];exact .of hl) ?_ ?_⟩
  ·rintro _ _ _ m y σ H1 hy ⟨rfl,la,v3,rfl,Dm⟩;obtain ⟨p,hp,rfl⟩:=b0 hy;obtain ⟨x,hx,pP⟩:=gE.get' hp;have hd:l.drop m=x::l.drop (m+1):=by
    obtain ⟨hm,e⟩:=aJ.mp hx;rw [gS hm,e]
   have VA:risesTo j.segs.length 0 l=(decide (la<x.1)&&risesTo j.segs.length x.1 (l.drop (m+1))):=by rw [Dm,hd];rfl
   refine ⟨_,rfl,p,_,0,_,rfl,rfl, .of pP,at_of (j:=0) rfl rfl,_,rfl,_,_,rfl,rfl,_,rfl,?_⟩;by_cases hc:x.1<=la
   ·refine dT hc ?_;exact cj q (by rw [VA,decide_eq_false (by omega)];rfl)
   ·refine dF hc ?_;refine ⟨_,rfl,p,_,0,_,rfl,rfl, .of pP,at_of (j:=0) rfl rfl,rfl,x.1,_,rfl,?_⟩;rw [VA,decide_eq_true (by omega)];rfl
  ·rintro σ H1 ⟨rfl,la,v3,rfl,Dm⟩;rw [ab,gE.1,Nj] at Dm;refine ⟨_,rfl,_,rfl,aL fj (aL Gb ⟨lsg,_,rfl, .inl (.of Z3),rfl,?_⟩)⟩;refine cj q ?_;rw [Dm,dV,ab,hs.1];rfl
theorem uW:ba ["house","threes","three"] ["house","threes"] (aM (top 74)):=fi
theorem Ly (D:Dn K mg "are_fares_there" (top 74) ["house","threes"]) (b:Bl mg):Fn P w K mg base "are_fares_there" 1 ["house","threes"] (Fi K):=by
 refine D.go uW λf db A outer s H vs Q E hr h=>?_
 ·intro Xc;obtain ⟨h,s,fl,lt,l,rfl,hh,⟨ps,hl,gE⟩,Qb,q⟩:=h;have hu:=jH hr;obtain ⟨kvs,hf,fd⟩:=hh.vT;have Ts: ∀k,(cr kvs (az k)).isSome=(fareOf s k).isSome:=λk=>by
   cases e:fareOf s k with
   |none=>rw [fd.none_ k e];rfl
   |some f=>
    obtain ⟨fa,e1,_⟩:=fd.xK k f e;rw [e1];rfl
  refine ⟨_,(aA (aX (dU (Mq rfl) rfl b.all wD (ae (ir rfl uW.nd (cC (pv 1)) (cT (own:= [("three",2)]) (by kernel_rfl))
    (λ_ _ _ _ _=>(gn 2 uW.nd)) (λ_ _ _ _ _=>eY)
    (λ_ _ _ _ _=>(Kv (Ri hu (Ml K (pv 2) aF) (eF K (pv 0)))))) ax)))),?_⟩
  refine ⟨_,rfl,lt,rfl,⟨_, .of hl⟩,λD hD=>fG (K:=K) (a:=lt) (xs:=ps.map V.ref) (λn H'=>aD H H'/\H' D=some (.lst (((l.take n).map λx=>(fareOf s x.2.1).isSome).map V.bl))) ⟨aD.new hD,ak⟩ (λn H' _ zz=> .of (zz.1 _ _ hl)) ?_ ?_⟩
  ·rintro _ _ _ _ n y H1 hy ⟨s1,h1⟩;obtain ⟨p,hp,rfl⟩:=b0 hy;obtain ⟨x,hx,pP⟩:=gE.get' hp;refine ⟨rfl,_,rfl,p,_,1,_,rfl,rfl, .of (s1 _ _ pP),at_of (j:=1) rfl rfl,_,rfl,aL (hh.g7.mono s1) ⟨h.f,_,rfl,j0.k (k:=az x.2.1) (s1 _ _ hf),?_⟩⟩;rw [Ts];refine ⟨_,h1,?_,aD.put s1 hD,?_⟩
   ·rw [ab,ab,bc];have:sizeLine=16777216:=af5;omega
   ·rw [ak,di hx,aP,aP];rfl
  ·rintro H1 ⟨s1,h1⟩;rw [ab,gE.1,bo] at h1;refine ⟨D,_,rfl, .of h1,?_⟩;rw [show ((l.map λx=>(fareOf s x.2.1).isSome).all id)=l.all λx=>(fareOf s x.2.1).isSome by rw [mW];rfl];exact q H1 s1
theorem xP:ba ["threes","place","partner"] ["threes","place"] (aM (top 75)):=fi
theorem Iz (D:Dn K mg "is_partner_right" (top 75) ["threes","place"]) (b:Bl mg):Fn P w K mg base "is_partner_right" 1 ["threes","place"] AS:=by
 refine D.go xP λf db A outer s H vs Q E hr h=>?_
 ·intro Xc;obtain ⟨lt,l,i,z,rfl,hz,⟨ps,hl,gE⟩,hi,h0,q⟩:=h;obtain ⟨x,hx⟩: ∃x,l[i]?=some x:=⟨_,ao hi⟩
  obtain ⟨p,hp,pP⟩:=gE.get hx;have Zy:=h0 x (aH hx);have epr:nc l i=(decide (x.2.2=0)||(decide (1<=x.2.2)&&(decide (x.2.2≠(i:Int)+1)&&(match l[(x.2.2-1).toNat]? with
   |some y=>decide (y.2.2=(i:Int)+1)
   |none=>false)))):=by unfold nc;rw [hx]
  refine ⟨_,(am (st 2 xP.nd (bf aY (bf aY (pv 0) (bX fU (pv 1) aF) (λ_ _=>rfl)) aF (λ_ _=>rfl)))
   (am (cE (cB fV (pv 2) aF (bS _))
    (aA (aX iu))
    bI)
   (aA (aX (d7 (dG vj (pv 2) (pv 1) (bS _)) (d7 (dG vm (pv 2) (iV b.len (pv 0)) (bS _)) (jD (dG fV (bf aY (bf aY (pv 0) (bX fU (pv 2) aF) (λ_ _=>rfl)) aF (λ_ _=>rfl)) (pv 1) (bS _))))))))),?_⟩
  refine qo ?_
  intros
  refine ⟨_,rfl,_,rfl,_,_,rfl,rfl,lt,_,_,_,rfl,rfl, .of hl,at_of (j:=i) (by omega) (cg hp),p,_,2,_,rfl,rfl, .of pP,at_of (j:=2) rfl rfl,?_⟩;refine ⟨_,rfl,rfl,_,rfl,?_⟩;by_cases hc:x.2.2=0
  ·refine eqT hc ?_;exact cj q (by rw [epr,decide_eq_true hc];rfl)
  ·refine Nd hc ?_;rw [epr,decide_eq_false hc,decide_eq_true (by omega:1<=x.2.2)] at q;refine ⟨_,rfl,_,rfl,rfl,_,rfl,?_⟩;by_cases fZ:x.2.2=z
   ·refine Td fZ ?_;exact cj q (by rw [decide_eq_false (by omega: ¬x.2.2≠(i:Int)+1)];rfl)
   ·refine neT fZ ?_;rw [decide_eq_true (by omega:x.2.2≠(i:Int)+1)] at q;refine ⟨_,rfl,_,rfl,lt,_,rfl, .inl (.of hl),_,_,rfl,rfl,_,rfl,?_⟩;have rj:((ps.map V.ref).length:Int)=l.length:=by rw [ab,gE.1]
    by_cases hlen:x.2.2<=(l.length:Int)
    ·refine dT (by rw [rj];exact hlen) ?_;obtain ⟨y,hy⟩: ∃y,l[(x.2.2-1).toNat]?=some y:=⟨_,ao (by omega)⟩
     obtain ⟨p',F5,VC⟩:=gE.get hy;rw [hy] at q;refine ⟨_,rfl,_,rfl,_,_,rfl,rfl,lt,_,_,_,rfl,rfl, .of hl,at_of (j:=(x.2.2-1).toNat) (by omega) (cg F5),p',_,2,_,rfl,rfl, .of VC,at_of (j:=2) rfl rfl,_,rfl,rfl,?_⟩;refine cj q ?_;rw [dV,hz];rfl
    ·refine dF (by rw [rj];exact hlen) ?_;have hy:l[(x.2.2-1).toNat]?=none:=by rw [kI];omega
     rw [hy] at q;exact cj q rfl
theorem pF:ba ["threes","place"] ["threes"] (aM (top 76)):=fi
theorem EG (D:Dn K mg "are_partners_right" (top 76) ["threes"]) (b:Bl mg) (G:Fn P w K mg base "is_partner_right" 1 ["threes","place"] AS):Fn P w K mg base "are_partners_right" 2 ["threes"] xI:=by
 refine D.go pF λf db A outer s H vs Q E hr h=>?_
 ·intro Xc;obtain ⟨lt,l,rfl,hT,h0,Qb,q⟩:=h;obtain ⟨ps,hl,gE⟩:=id hT;have rj:((ps.map V.ref).length:Int)=l.length:=by rw [ab,gE.1]
  refine ⟨_,(aA (aX (dU (Mq rfl) rfl b.all wD (ae (ir rfl pF.nd (iC rfl b.range (ae aF (ae (bX fD (iV b.len (pv 0)) aF) ax))) (cT (own:= [("place",1)]) (by kernel_rfl))
    (λ_ _ _ _ _=>(gn 1 pF.nd)) (λ_ _ _ _ _=>eY)
    (λ_ _ _ _ _=>(pc G hr (ae (pv 0) (ae (pv 1) ax))))) ax)))),?_⟩
  refine ⟨_,rfl,lt,_,rfl, .inl (.of hl),_,_,rfl,rfl,_,_,rfl,?_,λD hD=>?_⟩
  ·rw [rj];exact ⟨by omega,by omega,by omega,by omega⟩
  refine BP (lo:=1) (λn H'=>aD H H'/\H' D=some (.lst (((bv n).map (nc l)).map V.bl))) ⟨aD.new hD,ak⟩ ?_ ?_
  ·rintro _ _ _ _ n H1 hn ⟨s1,h1⟩;rw [rj] at hn;have hn:n<l.length:=by omega
   refine ⟨rfl,_,rfl,_,rfl,lt,l,n,_,rfl,by omega,hT.mono s1,hn,h0,_,h1,?_,aD.put s1 hD,?_⟩
   ·rw [ab,ab,bZ];have:sizeLine=16777216:=af5;omega
   ·rw [ak,dW,aP,aP];rfl
  ·rintro H1 ⟨s1,h1⟩;have en:((((ps.map V.ref).length:Nat):Int)+1-1).toNat=l.length:=by rw [rj];omega
   have h1:H1 D=some (.lst (((bv l.length).map (nc l)).map V.bl)):=by rw [<-en];exact h1
   refine ⟨D,_,rfl, .of h1,?_⟩;rw [show (((bv l.length).map (nc l)).all id)=partnersRight l by rw [vi,mW];rfl];exact q H1 s1
end
end Lf
namespace Lf
open Vbahaf (threes risesTo spansOf partnersRight fareOf single outward homeward together cut pay)
def j5 (i:Int) (l:List gI):Nat->Int
 |0=>i
 |m+1=>(l[m]?.map λx=>x.1).getD i
theorem A9: ∀{l:List gI} {n i:Int},risesTo n i l=true->i<=n
 | [],n,i,h=>by
  have:i=n:=by simpa [risesTo] using h
  omega
 |x::l,n,i,h=>by
  have h:(decide (i<x.1)&&risesTo n x.1 l)=true:=h;rw [aU] at h;have h1:i<x.1:=by simpa using h.1
  have:=A9 h.2;omega
theorem AQ: ∀{l:List gI} {n i:Int} {m:Nat} {x:gI},risesTo n i l=true->0<=i->l[m]?=some x->(spansOf i l)[m]?=some ((j5 i l m).toNat,x.1.toNat)/\0<=j5 i l m/\j5 i l m<x.1/\x.1<=n
 | [],_,_,_,_,_,_,h=>by simp at h
 |y::l,n,i,0,x,hr,hi,h=>by
  have e:y=x:=by simpa using h
  subst e;have hr:(decide (i<y.1)&&risesTo n y.1 l)=true:=hr;rw [aU] at hr;have h1:i<y.1:=by simpa using hr.1
  exact ⟨rfl,hi,h1,A9 hr.2⟩
 |y::l,n,i,m+1,x,hr,hi,h=>by
  have hr:(decide (i<y.1)&&risesTo n y.1 l)=true:=hr;rw [aU] at hr;have h1:i<y.1:=by simpa using hr.1
  have h:l[m]?=some x:=by simpa using h
  have ih:=AQ hr.2 (by omega) h;have es:j5 i (y::l) (m+1)=j5 y.1 l m:=by
   cases m with
   |zero=>rfl
   |succ k=>
    obtain ⟨z,hz⟩: ∃z,l[k]?=some z:=⟨_,ao (by have:=(aJ.mp h).1;omega)⟩
    show ((y::l)[k+1]?.map λx=>x.1).getD i=(l[k]?.map λx=>x.1).getD y.1;rw [Dg,hz];rfl
  rw [es];exact ih
theorem iB: ∀(l:List gI) (i:Int),(spansOf i l).length=l.length
 | [],_=>rfl
 |x::l,i=>by
  show (spansOf x.1 l).length+1=_;rw [iB l x.1];rfl
def f0:aq:={key:=0,carrier:=0,src:=0,dst:=0,way:=0,amount:=0,classes:=0,weekdays:=0,ahead:=0,leastStay:=0,mostStay:=0,group:=0,open_:=0,kinds:=0,segs:=0}
def qJ (s:ag) (k:Int):aq:=(fareOf s k).getD f0
def oO (K:aa) (H:Hp) (s:ag) (j:ai) (lc:Addr) (sp:List (Nat×Nat)):Prop:= ∃lH:List Addr,H lc=some (.lst (lH.map V.ref))/\bQ (λa c=>d9 K H (λ_=>False) s j c.1 c.2 a) lH sp
theorem oO.mono {K:aa} {H H':Hp} {s:ag} {j:ai} {lc:Addr} {sp:List (Nat×Nat)} (h:oO K H s j lc sp) (e:aD H H'):oO K H' s j lc sp:=by
 obtain ⟨lH,h1,h2⟩:=h;exact ⟨lH,e _ _ h1,h2.mono λ_ _ z=>z.mono e⟩
inductive sT (K:aa) (vs:List V) (H:Hp) (Q:VK):Prop
 |mk (h:HA) (s:ag) (fl:List aq) (j:ai) (lt:Addr) (l:List gI):vs= [.ref h.a, .ref lt]->aZ K H h s fl->s.journey=some j->fM H lt l->risesTo j.segs.length 0 l=true->l.length<=20->(∀(H':Hp) (lc:Addr),aD H H'->oO K H' s j lc (spansOf 0 l)->Q (.ref lc) H')->sT K vs H Q
def pC (K:aa):Sp:=λvs H Q _=>sT K vs H Q
def J5 (s:ag) (j:ai) (af:Int) (y:(Nat×Nat)×gI):Bool:=decide (y.2.2.2≠0)||single j af (qJ s y.2.2.1) (cut j y.1.1 y.1.2)
inductive GC (K:aa) (vs:List V) (H:Hp) (Q:VK):Prop
 |mk (h:HA) (s:ag) (fl:List aq) (j:ai) (af:Int) (lt lc:Addr) (l:List gI) (sp:List (Nat×Nat)):vs= [.ref h.a, .int af, .ref lt, .ref lc]->aZ K H h s fl->s.journey=some j->0<=af->fM H lt l->oO K H s j lc sp->sp.length=l.length->(l.all λx=>(fareOf s x.2.1).isSome)=true->(∀H',aD H H'->Q (.bl ((sp.zip l).all (J5 s j af))) H')->GC K vs H Q
def JM (K:aa):Sp:=λvs H Q _=>GC K vs H Q
theorem An.get {K:aa} {H:Hp} {s:ag} {kvs:List (Key×V)} (x:An K H s kvs) (ok:kE s) {l:List gI} (h:(l.all λx=>(fareOf s x.2.1).isSome)=true) {y:gI} (hy:y∈l): ∃fa,cr kvs (az y.2.1)=some (.ref fa)/\dr K H fa (qJ s y.2.1)/\qJ s y.2.1∈s.fares:=by
 have hs:(fareOf s y.2.1).isSome=true:=bP.mp h y hy;cases e:fareOf s y.2.1 with
 |none=>rw [e] at hs;cases hs
 |some f=>
  obtain ⟨fa,a,b,_⟩:=x.xK _ f e;have ef:qJ s y.2.1=f:=by unfold qJ;rw [e];rfl
  rw [ef];exact ⟨fa,a,b,((iU ok).mp e).1⟩
section
theorem iQ:ba ["house","threes","found","first","three"] ["house","threes"] (aM (top 77)):=fi
theorem Cb (D:Dn K mg "find_components" (top 77) ["house","threes"]) (G:Cl P w K mg base "Component" t.cK 2 ["self","house","first","last"] (y9 K t.cK)):Fn P w K mg base "find_components" 4 ["house","threes"] (pC K):=by
 refine D.go iQ λf db A outer s H vs Q E hr h=>?_
 ·intro Xc;obtain ⟨h,s,fl,j,lt,l,rfl,hh,hj,⟨ps,hl,gE⟩,Dm,Qb,q⟩:=h;refine ⟨_,(am (st 2 iQ.nd (bJ ax))
   (am (st 3 iQ.nd aF)
   (am (dk PassesOwn.never rfl (cC (pv 1)) (gn 4 iQ.nd)
    (am (eD (Cg (pv 2) (MX G hr (ae (pv 0) (ae (pv 3) (ae (bX fU (bf aY (pv 4) aF (λ_ _=>rfl)) aF) ax))))))
   (aA (st 3 iQ.nd (bf aY (pv 4) aF (λ_ _=>rfl))))))
   (aA (aX (pv 2)))))),?_⟩
  refine mL ?_
  intros
  refine ⟨bw _,λlf U4=>?_⟩;have s1:aD H (upd H lf (.lst [])):=aD.new U4;refine ⟨_,rfl,lt,rfl,⟨_, .of (s1 _ _ hl)⟩,eQ (K:=K) (a:=lt) (xs:=ps.map V.ref) (λm σ H'=>(∃v4,σ= [some (.ref h.a),some (.ref lt),some (.ref lf),some (.int (j5 0 l m)),v4])/\aD H H'/\∃lH:List Addr,H' lf=some (.lst (lH.map V.ref))/\bQ (λa c=>d9 K H' (λb=>b=lf) s j c.1 c.2 a) lH ((spansOf 0 l).take m)) ⟨⟨_,rfl⟩,s1,[],ak,bQ.nil⟩ (λm σ H' _ zz=> .of (zz.2.1 _ _ hl)) ?_ ?_⟩
  ·rintro _ _ _ m y σ H1 hy ⟨⟨v4,rfl⟩,s2,lH,hc,nv⟩;obtain ⟨p,hp,rfl⟩:=b0 hy;obtain ⟨x,hx,pP⟩:=gE.get' hp;obtain ⟨g1,g2,g3,g4⟩:=AQ Dm (wX 0) hx;refine ⟨_,rfl, .inl ⟨rfl,_, .of hc⟩,_,rfl,_,rfl,_,rfl,p,_,0,_,rfl,rfl, .of (s2 _ _ pP),at_of (j:=0) rfl rfl,_,_,rfl,rfl,λa da na nda nea=>?_⟩;refine ⟨a,da,H1,h,s,fl,j,(j5 0 l m).toNat,x.1.toNat,_,_,rfl,by omega,by show x.1-1=_;omega,ak,dQ na nda,na,hh.mono s2,hj,by omega,by omega,λH3 s3 c3=>⟨rfl,?_⟩⟩;have hc3:=s3 _ _ hc;have up:dB lf H3 (upd H3 lf (.lst (lH.map V.ref++ [.ref a]))):=dB.upd;refine ⟨lf,_,_,rfl,rfl,hc3,?_,?_⟩
   ·rw [ab,nv.1,bc];rw [iB];have:sizeLine=16777216:=af5;omega
   ·refine ⟨_,rfl,p,_,0,_,rfl,rfl, .of (bm (s3 _ _ (s2 _ _ pP)) (aG pP U4)),at_of (j:=0) rfl rfl,⟨some (.ref p),?_⟩,aD.put (s2.trans s3) U4,lH++ [a],by rw [ak,dP],?_⟩
    ·have:j5 0 l (m+1)=x.1:=by show (l[m]?.map λx=>x.1).getD 0=_;rw [hx];rfl
     rw [this];rfl
    ·rw [di g1];exact (nv.mono λ_ _ z=>(z.mono s3).but rfl hc3 up).snoc ((c3.weak λb hb=>by
      subst hb;exact ⟨_,dQ na nda _ _ hc⟩).but rfl hc3 up)
  ·rintro σ H1 ⟨⟨v4,rfl⟩,s2,lH,hc,nv⟩;rw [ab,gE.1, <-iB l 0,bo] at nv;exact ⟨_,rfl,q H1 lf s2 ⟨lH,hc,nv.mono λ_ _ z=>z.weak λ_ y=>y.elim⟩⟩
theorem zc:ba ["house","kind","threes","components","three","component"] ["house","kind","threes","components"] (aM (top 78)):=fi
theorem OH (D:Dn K mg "do_singles_fit" (top 78) ["house","kind","threes","components"]) (b:Bl mg) (G:Fn P w K mg base "fits_singly" 4 ["fare","component","kind"] (j6 K single)):Fn P w K mg base "do_singles_fit" 5 ["house","kind","threes","components"] (JM K):=by
 refine D.go zc λf db A outer s H vs Q E hr h=>?_
 ·intro Xc;obtain ⟨h,s,fl,j,af,lt,lc,l,sp,rfl,hh,hj,hk,⟨ps,hl,gE⟩,⟨lH,hc,nv⟩,hlen,hall,q⟩:=h;have hu:=jH hr;have hJ:=hh.ok.jo j hj;obtain ⟨kvs,hf,fd⟩:=hh.vT;refine ⟨_,(am (dk PassesOwn.never rfl (Ko rfl b.zip (ae (pv 2) (ae (pv 3) ax))) (km rfl (cF (gn 4 zc.nd) (cF (gn 5 zc.nd) gX)))
    (aA (cE (pG (cB fV (bf aY (pv 4) aF (λ_ _=>rfl)) aF (bS _)) (lQ (ii (eK (pc G hr (ae (oy hu (aT (pv 0) rfl) (bf aY (pv 4) aF (λ_ _=>rfl)) (λ_ _=>rfl)) (ae (pv 5) (ae (pv 1) ax)))))))).pt
    (aA (aX iu))
    bI)))
   (aA (aX iu))),?_⟩
  refine ⟨_,rfl,_,rfl,lt,lc,_,_,rfl, .of hl, .of hc,l5 (n:=l.length) (λm σ H'=>(∃v4 v5,σ= [some (.ref h.a),some (.int af),some (.ref lt),some (.ref lc),v4,v5])/\aD H H'/\((sp.zip l).take m).all (J5 s j af)=true) ⟨⟨_,_,rfl⟩,aD.refl H,rfl⟩ (λm σ H' hm zz=>?_) (λσ H' zz=>⟨_,_, .of (zz.2.1 _ _ hl), .of (zz.2.1 _ _ hc), .inl (by rw [ab,gE.1];exact ay _)⟩) ?_ ?_⟩
  ·obtain ⟨p,hp⟩: ∃p,ps[m]?=some p:=⟨_,ao (by rw [gE.1];exact hm)⟩
   obtain ⟨a,ha⟩: ∃a,lH[m]?=some a:=⟨_,ao (by rw [nv.1,hlen];exact hm)⟩
   exact ⟨_,_,_,_, .of (zz.2.1 _ _ hl), .of (zz.2.1 _ _ hc),cg hp,cg ha⟩
  ·rintro _ _ _ m σ H1 v QG hm ⟨⟨v4,v5,rfl⟩,s1,cN⟩ ⟨T,vx,vy,rfl,hT,rfl,Vu,ZC⟩;obtain ⟨p,hp,rfl⟩:=b0 (Vu _ (.of (s1 _ _ hl)));obtain ⟨a,ha,rfl⟩:=b0 (ZC _ (.of (s1 _ _ hc)));obtain ⟨x,hx,pP⟩:=gE.get' hp;obtain ⟨c,Tx,cat⟩:=nv.get' ha;have s2:aD H1 (upd H1 T (.tup [.ref p, .ref a])):=aD.new hT;have ig:=s1.trans s2;have hz:(sp.zip l)[m]?=some (c,x):=cf.mpr ⟨Tx,hx⟩;refine ⟨T,_,rfl, .of ak,rfl,_,_,rfl,_,_,rfl,rfl,?_⟩;refine ⟨_,rfl,p,_,2,_,rfl,rfl, .of (ig _ _ pP),at_of (j:=2) rfl rfl,rfl,_,rfl,?_⟩;have good:J5 s j af (c,x)=true->((sp.zip l).take (m+1)).all (J5 s j af)=true:=λe=>by rw [di hz,ic,cN,gb,e];rfl
   by_cases h0:x.2.2=0
   ·refine eqT h0 ?_;obtain ⟨fa,e1,rV,fm⟩:=fd.get hh.ok hall (aH hx);refine ⟨_,rfl,aL (hh.g7.mono ig) ⟨_,rfl,p,_,1,_,rfl,rfl, .of (ig _ _ pP),at_of (j:=1) rfl rfl,h.f,_,rfl, .inl ⟨kvs,az x.2.1, .inl (ig _ _ hf),rfl,e1.symm⟩,_,rfl,_,rfl,fa,a,_,s,j,c.1,c.2,af,_,rfl,rV.mono ig,cat.mono ig,hk,hJ,_,rfl,?_⟩⟩;refine ip (λe2=>?_) (λe2=>?_)
    ·have e2:single j af (qJ s x.2.1) (cut j c.1 c.2)=false:=by simpa using e2
     refine cj (q _ ig) ?_;rw [iA];refine ⟨(c,x),aH hz,?_⟩;unfold J5;rw [decide_eq_false (λz=>z h0),e2];exact aI
    ·have e2:single j af (qJ s x.2.1) (cut j c.1 c.2)=true:=by simpa using e2
     exact ⟨⟨_,_,rfl⟩,ig,good (by unfold J5;rw [e2,Bool.or_true])⟩
   ·refine Nd h0 (tF ?_);exact ⟨⟨_,_,rfl⟩,ig,good (by unfold J5;rw [decide_eq_true h0];rfl)⟩
  ·rintro σ H1 ⟨⟨v4,v5,rfl⟩,s1,cN⟩;rw [ck (by rw [dX,hlen,tU];exact ay _)] at cN;exact cj (q _ s1) cN
end
end Lf
namespace Lf
open Vbahaf (threes risesTo spansOf partnersRight fareOf single outward homeward together cut pay checked)
def ke (s:ag) (j:ai) (sp:List (Nat×Nat)) (l:List gI):List (cw×aq×Int):=(sp.zip l).map λy=>(cut j y.1.1 y.1.2,qJ s y.2.2.1,y.2.2.2)
def Jf (s:ag) (j:ai) (af:Int) (xs:List (cw×aq×Int)) (i:Nat):Bool:=match xs[i]? with
 |none=>true
 |some x=>decide (x.2.2<=(i:Int)+1)||(match xs[(x.2.2-1).toNat]? with
  |none=>false
  |some y=>outward j af x.2.1 x.1&&(homeward j af y.2.1 y.1&&together s x.2.1 y.2.1 x.1 y.1))
theorem yS {s:ag} {j:ai} {sp:List (Nat×Nat)} {l:List gI} {i:Nat} {c:Nat×Nat} {x:gI} (hc:sp[i]?=some c) (hx:l[i]?=some x):(ke s j sp l)[i]?=some (cut j c.1 c.2,qJ s x.2.1,x.2.2):=by
 unfold ke;have hz:(sp.zip l)[i]?=some (c,x):=cf.mpr ⟨hc,hx⟩;rw [bp,hz];rfl
theorem AE {s:ag} {j:ai} {sp:List (Nat×Nat)} {l:List gI} (h:sp.length=l.length):(ke s j sp l).length=l.length:=by
 unfold ke;rw [ab,dX,h,tU]
theorem Bz {l:List gI} (h:partnersRight l=true) {i:Nat} {x:gI} (hx:l[i]?=some x) (h0:x.2.2≠0): ∃y,l[(x.2.2-1).toNat]?=some y:=by
 rw [vi,bP] at h;have:=h i (bE.mpr (aJ.mp hx).1);unfold nc at this;rw [hx] at this;simp only [decide_eq_false h0,re,aU] at this;cases e:l[(x.2.2-1).toNat]? with
 |some y=>exact ⟨y,rfl⟩
 |none=>rw [e] at this;exact absurd this.2.2 aI
inductive GF (K:aa) (vs:List V) (H:Hp) (Q:VK):Prop
 |mk (h:HA) (s:ag) (fl:List aq) (j:ai) (af:Int) (lt lc:Addr) (l:List gI) (sp:List (Nat×Nat)):vs= [.ref h.a, .int af, .ref lt, .ref lc]->aZ K H h s fl->s.journey=some j->0<=af->fM H lt l->oO K H s j lc sp->sp.length=l.length->(l.all λx=>(fareOf s x.2.1).isSome)=true->partnersRight l=true->(∀H',aD H H'->Q (.bl ((bv l.length).all (Jf s j af (ke s j sp l)))) H')->GF K vs H Q
def JP (K:aa):Sp:=λvs H Q _=>GF K vs H Q
def codeOf (s:ag) (j:ai) (af:Int) (l:List gI):Int:=
 if risesTo j.segs.length 0 l=false then 1
 else if (l.all λx=>(fareOf s x.2.1).isSome)=false then 2
 else if partnersRight l=false then 3
 else if ((spansOf 0 l).zip l).all (J5 s j af)=false then 4
 else if (bv l.length).all (Jf s j af (ke s j (spansOf 0 l) l))=false then 5
 else 0
def Pt (s:ag) (j:ai) (af:Int) (l:List gI):Int:=((ke s j (spansOf 0 l) l).map λx=>pay s af x.2.1 x.1).sum
theorem ER {s:ag} {j:ai} {af:Int} {l:List gI} (h1:1<=j.segs.length):checked s j af l=(codeOf s j af l,if codeOf s j af l=0 then Pt s j af l else 0):=by
 unfold checked codeOf;by_cases c1:risesTo j.segs.length 0 l=false
 ·rw [if_pos (.inl c1),if_pos c1];rfl
 ·have fZ:l≠ []:=λe=>by
   subst e;apply c1;show decide ((0:Int)=j.segs.length)=false;exact decide_eq_false (by omega)
  rw [if_neg (λz=>z.elim c1 fZ),if_neg c1];by_cases c2:(l.all λx=>(fareOf s x.2.1).isSome)=false
  ·rw [if_pos c2,if_pos c2];rfl
  ·rw [if_neg c2,if_neg c2];by_cases c3:partnersRight l=false
   ·rw [if_pos c3,if_pos c3];rfl
   ·rw [if_neg c3,if_neg c3];have c2:(l.all λx=>(fareOf s x.2.1).isSome)=true:=lG _▸c2;have ex:(((spansOf 0 l).map λc=>cut j c.1 c.2).zip l).filterMap (λx=>(fareOf s x.2.2.1).map λf=>(x.1,f,x.2.2.2))=ke s j (spansOf 0 l) l:=by
     unfold ke;rw [List.zip_map_left,Jp, <-List.filterMap_eq_map];refine fk λy hy=>?_;have hm:y.2∈l:=by
      obtain ⟨i,hi⟩:=dE.mp hy;exact aH (cf.mp hi).2
     have hs:(fareOf s y.2.2.1).isSome=true:=bP.mp c2 _ hm;show (fareOf s y.2.2.1).map _=some _;unfold qJ;cases e:fareOf s y.2.2.1 with
     |none=>rw [e] at hs;cases hs
     |some f=>simp only [e];rfl
    simp only [ex];have e4:((ke s j (spansOf 0 l) l).all λx=>decide (x.2.2≠0)||single j af x.2.1 x.1)=((spansOf 0 l).zip l).all (J5 s j af):=by
     unfold ke;rw [mW];rfl
    rw [e4,AE (iB l 0)];by_cases c4:((spansOf 0 l).zip l).all (J5 s j af)=false
    ·rw [if_pos c4,if_pos c4];rfl
    ·rw [if_neg c4,if_neg c4];by_cases c5:(bv l.length).all (Jf s j af (ke s j (spansOf 0 l) l))=false
     ·rw [if_pos c5];exact (if_pos c5)
     ·rw [if_neg c5];refine (if_neg c5).trans ?_;rw [k4,oi];rfl
section
theorem oq:ba ["house","kind","threes","components","place","three","partner","fare_out","fare_home"] ["house","kind","threes","components"] (aM (top 79)):=fi
theorem OI (D:Dn K mg "do_returns_fit" (top 79) ["house","kind","threes","components"]) (b:Bl mg) (G:Fn P w K mg base "make_return" 5 ["house","kind","fare_out","out","fare_home","home"] (AR K)):Fn P w K mg base "do_returns_fit" 6 ["house","kind","threes","components"] (JP K):=by
 refine D.go oq λf db A outer s H vs Q E hr h=>?_
 ·intro Xc;obtain ⟨h,s,fl,j,af,lt,lc,l,sp,rfl,hh,hj,hk,⟨ps,hl,gE⟩,⟨lH,hc,nv⟩,hlen,hall,Xs,q⟩:=h;have hu:=jH hr;obtain ⟨kvs,hf,fd⟩:=hh.vT;refine ⟨_,(am (dk PassesOwn.never rfl (Bq rfl b.enumerate (pv 2)) (km rfl (cF (gn 4 oq.nd) (cF (gn 5 oq.nd) gX)))
    (aA (cE (cB BA (bf aY (pv 5) aF (λ_ _=>rfl)) (pv 4) (bS _))
    (am (st 6 oq.nd (bf aY (pv 2) (bX fU (bf aY (pv 5) aF (λ_ _=>rfl)) aF) (λ_ _=>rfl)))
   (am (st 7 oq.nd (oy hu (aT (pv 0) rfl) (bf aY (pv 5) aF (λ_ _=>rfl)) (λ_ _=>rfl)))
   (am (st 8 oq.nd (oy hu (aT (pv 0) rfl) (bf aY (pv 6) aF (λ_ _=>rfl)) (λ_ _=>rfl)))
   (aA (cE (ii (eK (pc G hr (ae (pv 0) (ae (pv 1) (ae (pv 7) (ae (bf aY (pv 3) (bX fU (pv 4) aF) (λ_ _=>rfl)) (ae (pv 8) (ae (bf aY (pv 3) (bX fU (bf aY (pv 5) aF (λ_ _=>rfl)) aF) (λ_ _=>rfl)) ax)))))))))
    (aA (aX iu))
    bI)))))
    bI)))
   (aA (aX iu))),?_⟩
  refine ⟨_,rfl,lt,_,rfl, .of hl,l5 (n:=l.length) (λm σ H'=>(∃v4 v5 v6 v7 v8,σ= [some (.ref h.a),some (.int af),some (.ref lt),some (.ref lc),v4,v5,v6,v7,v8])/\aD H H'/\(bv m).all (Jf s j af (ke s j sp l))=true) ⟨⟨_,_,_,_,_,rfl⟩,aD.refl H,rfl⟩ (λm σ H' hm zz=>?_) (λσ H' zz=>⟨_, .of (zz.2.1 _ _ hl),by rw [ab,gE.1];exact ay _⟩) ?_ ?_⟩
  ·obtain ⟨p,hp⟩: ∃p,ps[m]?=some p:=⟨_,ao (by rw [gE.1];exact hm)⟩
   exact ⟨_,_, .of (zz.2.1 _ _ hl),cg hp⟩
  ·rintro _ _ _ m σ H1 v QG hm ⟨⟨v4,v5,v6,v7,v8,rfl⟩,s1,cN⟩ ⟨T,vx,rfl,hT,rfl,Vu⟩;obtain ⟨p,hp,rfl⟩:=b0 (Vu _ (.of (s1 _ _ hl)));obtain ⟨x,hx,pP⟩:=gE.get' hp;obtain ⟨c,Tx⟩: ∃c,sp[m]?=some c:=⟨_,ao (by rw [hlen];exact hm)⟩
   obtain ⟨a,ha,cat⟩:=nv.get Tx;have s2:aD H1 (upd H1 T (.tup [.int ((m:Int)+1), .ref p])):=aD.new hT;have ig:=s1.trans s2;have Xp:=yS (s:=s) (j:=j) Tx hx;refine ⟨T,_,rfl, .of ak,rfl,_,_,rfl,_,_,rfl,rfl,?_⟩;refine ⟨_,rfl,p,_,2,_,rfl,rfl, .of (ig _ _ pP),at_of (j:=2) rfl rfl,_,rfl,_,_,rfl,rfl,_,rfl,?_⟩;have good:Jf s j af (ke s j sp l) m=true->(bv (m+1)).all (Jf s j af (ke s j sp l))=true:=λe=>by rw [dW,ic,cN,gb,e];rfl
   by_cases hgt:(m:Int)+1<x.2.2
   ·refine dT hgt ?_;obtain ⟨y,hy⟩:=Bz Xs hx (by omega);obtain ⟨p',F5,VC⟩:=gE.get hy;obtain ⟨d,hdx⟩: ∃d,sp[(x.2.2-1).toNat]?=some d:=⟨_,ao (by rw [hlen];exact (aJ.mp hy).1)⟩
    obtain ⟨a',Wc,SK⟩:=nv.get hdx;have Zu:=yS (s:=s) (j:=j) hdx hy;obtain ⟨fa,e1,rV,fm⟩:=fd.get hh.ok hall (aH hx);obtain ⟨fb,e2,fbt,gm⟩:=fd.get hh.ok hall (aH hy);have Ww:Jf s j af (ke s j sp l) m=(outward j af (qJ s x.2.1) (cut j c.1 c.2)&&(homeward j af (qJ s y.2.1) (cut j d.1 d.2)&&together s (qJ s x.2.1) (qJ s y.2.1) (cut j c.1 c.2) (cut j d.1 d.2))):=by
     unfold Jf;rw [Xp];show (decide (x.2.2<=(m:Int)+1)||(match (ke s j sp l)[(x.2.2-1).toNat]? with
      |none=>false
      |some y=>_))=_
     rw [Zu,decide_eq_false (by omega)];rfl
    refine ⟨_,rfl,_,rfl,p,_,2,_,rfl,rfl, .of (ig _ _ pP),at_of (j:=2) rfl rfl,_,_,rfl,rfl,lt,_,_,_,rfl,rfl, .of (ig _ _ hl),at_of (j:=(x.2.2-1).toNat) (by show x.2.2-1=_;omega) (cg F5),?_⟩;refine ⟨_,rfl,aL (hh.g7.mono ig) ⟨_,rfl,p,_,1,_,rfl,rfl, .of (ig _ _ pP),at_of (j:=1) rfl rfl,h.f,_,rfl, .inl ⟨kvs,az x.2.1, .inl (ig _ _ hf),rfl,e1.symm⟩,?_⟩⟩;refine ⟨_,rfl,aL (hh.g7.mono ig) ⟨_,rfl,p',_,1,_,rfl,rfl, .of (ig _ _ VC),at_of (j:=1) rfl rfl,h.f,_,rfl, .inl ⟨kvs,az y.2.1, .inl (ig _ _ hf),rfl,e2.symm⟩,?_⟩⟩;refine ⟨_,rfl,_,rfl,_,rfl,_,rfl,_,rfl,_,_,rfl,rfl,lc,_,_,_,rfl,rfl, .of (ig _ _ hc),at_of (j:=m) (by show (m:Int)+1-1=_;omega) (cg ha),_,rfl,_,rfl,_,rfl,p,_,2,_,rfl,rfl, .of (ig _ _ pP),at_of (j:=2) rfl rfl,_,_,rfl,rfl,lc,_,_,_,rfl,rfl, .of (ig _ _ hc),at_of (j:=(x.2.2-1).toNat) (by show x.2.2-1=_;omega) (cg Wc),?_⟩;refine ⟨h,s,fl,j,af,fa,a,fb,a',_,_,c.1,c.2,d.1,d.2,_,_,rfl,hh.mono ig,hj,hk,rV.mono ig,fbt.mono ig,fm,gm,cat.mono ig,SK.mono ig,λH2 s3=>⟨_,rfl,?_⟩⟩;refine ip (λe3=>?_) (λe3=>?_)
    ·have e3:Jf s j af (ke s j sp l) m=false:=by rw [Ww];exact eW _▸e3
     refine cj (q _ (ig.trans s3)) ?_;rw [iA];exact ⟨m,bE.mpr hm,by rw [e3];exact aI⟩
    ·have e3:Jf s j af (ke s j sp l) m=true:=by rw [Ww];exact ie _▸e3
     exact ⟨⟨_,_,_,_,_,rfl⟩,ig.trans s3,good e3⟩
   ·refine dF hgt ?_;refine ⟨⟨_,_,_,_,_,rfl⟩,ig,good ?_⟩;unfold Jf;rw [Xp];show (decide (x.2.2<=(m:Int)+1)||_)=true;rw [decide_eq_true (by omega)];rfl
  ·rintro σ H1 ⟨⟨v4,v5,v6,v7,v8,rfl⟩,s1,cN⟩;exact cj (q _ s1) cN
end
end Lf
namespace Lf
open Vbahaf (threes risesTo spansOf partnersRight fareOf single outward homeward together cut pay checked)
inductive Ao (K:aa) (vs:List V) (H:Hp) (R:ag->ai->Int->List gI->Prop):Prop
 |mk (h:HA) (s:ag) (fl:List aq) (j:ai) (af:Int) (lt:Addr) (l:List gI):vs= [.ref h.a, .int af, .ref lt]->aZ K H h s fl->s.journey=some j->(0<=af/\af<=4)->fM H lt l->l.length<=20->(∀x∈l,0<=x.2.2)->R s j af l->Ao K vs H R
def Fe (K:aa):Sp:=λvs H Q _=>Ao K vs H λs j af l=> ∀H',aD H H'->Q (.int (codeOf s j af l)) H'
def Fh (K:aa):Sp:=λvs H Q _=>Ao K vs H λs j af l=>risesTo j.segs.length 0 l=true/\(l.all λx=>(fareOf s x.2.1).isSome)=true/\∀H',aD H H'->Q (.int (Pt s j af l)) H'
inductive CV (K:aa) (vs:List V) (H:Hp) (Q:VK):Prop
 |mk (h:HA) (s:ag) (fl:List aq) (j:ai) (af:Int) (lw:Addr) (rw:List Int):vs= [.ref h.a, .int af, .ref lw]->aZ K H h s fl->s.journey=some j->(0<=af/\af<=4)->H lw=some (.lst (rw.map V.int))->rw.length<=24->rw.length%3=0->(∀x∈threes rw,0<=x.2.2)->(∀(H':Hp) (l:Addr),aD H H'->H' l=some (.lst [.int (checked s j af (threes rw)).1, .int (checked s j af (threes rw)).2])->Q (.ref l) H')->CV K vs H Q
def Fu (K:aa):Sp:=λvs H Q _=>CV K vs H Q
def FP (ns rw:List Int):Prop:= ∃af:Int,ns= [af]/\(0<=af/\af<=4)/\rw.length<=24/\rw.length%3=0/\∀x∈threes rw,0<=x.2.2
def Lo (s:ag) (j:ai) (ns rw:List Int):List Int:=let x:=checked s j (ns.getD 0 0) (threes rw); [0,x.1,x.2]
theorem BR {c:Bool} {A B:Prop} (h1:c=false->A) (h2:c=true->B):if (!c)=true then A else B:=by
 cases c with
 |true=>exact (if_neg aI).mpr (h2 rfl)
 |false=>exact (if_pos rfl).mpr (h1 rfl)
section
theorem A0:ba ["house","kind","threes","components"] ["house","kind","threes"] (aM (top 80)):=fi
theorem Lq (D:Dn K mg "find_wrong" (top 80) ["house","kind","threes"]) (c:Cs mg) (G1:Fn P w K mg base "is_cut_right" 1 ["house","threes"] (PF K)) (G2:Fn P w K mg base "are_fares_there" 1 ["house","threes"] (Fi K)) (G3:Fn P w K mg base "are_partners_right" 2 ["threes"] xI)
  (G4:Fn P w K mg base "find_components" 4 ["house","threes"] (pC K)) (G5:Fn P w K mg base "do_singles_fit" 5 ["house","kind","threes","components"] (JM K)) (G6:Fn P w K mg base "do_returns_fit" 6 ["house","kind","threes","components"] (JP K)):
  Fn P w K mg base "find_wrong" 7 ["house","kind","threes"] (Fe K):=by
 refine D.go A0 λf db A outer s H vs Q E hr h=>?_
 ·intro Xc;obtain ⟨h,s,fl,j,af,lt,l,rfl,hh,hj,hk,hT,Qb,h0,q⟩:=h;refine ⟨_,(am (cE (ii (eK (pc G1 hr (ae (pv 0) (ae (pv 2) ax)))))
    (aA (aX (kj c.IU)))
    bI)
   (am (cE (ii (eK (pc G2 hr (ae (pv 0) (ae (pv 2) ax)))))
    (aA (aX (kj c.Am)))
    bI)
   (am (cE (ii (eK (pc G3 hr (ae (pv 2) ax))))
    (aA (aX (kj c.xw)))
    bI)
   (am (st 3 A0.nd (pc G4 hr (ae (pv 0) (ae (pv 2) ax))))
   (am (cE (ii (eK (pc G5 hr (ae (pv 0) (ae (pv 1) (ae (pv 2) (ae (pv 3) ax)))))))
    (aA (aX (kj c.E1)))
    bI)
   (am (cE (ii (eK (pc G6 hr (ae (pv 0) (ae (pv 1) (ae (pv 2) (ae (pv 3) ax)))))))
    (aA (aX (kj c.IZ)))
    bI)
   (aA (aX (kj c.kF))))))))),?_⟩
  refine Q3 ?_
  intros
  refine ⟨_,rfl,_,rfl,h,s,fl,j,lt,l,rfl,hh,hj,hT,_,rfl,?_⟩;refine BR (λe1=>?_) (λe1=>?_)
  ·have ec:codeOf s j af l=1:=by unfold codeOf;rw [if_pos e1]
   rw [ec] at q;exact q H (aD.refl H)
  refine ⟨_,rfl,_,rfl,h,s,fl,lt,l,rfl,hh,hT,Qb,λH1 s1=>⟨_,rfl,?_⟩⟩;have n1: ¬risesTo j.segs.length 0 l=false:=by rw [e1];simp
  refine BR (λe2=>?_) (λe2=>?_)
  ·have ec:codeOf s j af l=2:=by unfold codeOf;rw [if_neg n1,if_pos e2]
   rw [ec] at q;exact q H1 s1
  have n2: ¬(l.all λx=>(fareOf s x.2.1).isSome)=false:=by rw [e2];simp
  refine ⟨_,rfl,lt,l,rfl,hT.mono s1,h0,Qb,λH2 s2=>⟨_,rfl,?_⟩⟩;have ig:=s1.trans s2;refine BR (λe3=>?_) (λe3=>?_)
  ·have ec:codeOf s j af l=3:=by unfold codeOf;rw [if_neg n1,if_neg n2,if_pos e3]
   rw [ec] at q;exact q H2 ig
  have n3: ¬partnersRight l=false:=by rw [e3];simp
  refine ⟨_,rfl,_,rfl,h,s,fl,j,lt,l,rfl,hh.mono ig,hj,hT.mono ig,e1,Qb,λH3 lc s3 hC=>?_⟩;have wI:=ig.trans s3;refine ⟨_,rfl,_,rfl,_,rfl,_,rfl,h,s,fl,j,af,lt,lc,l,_,rfl,hh.mono wI,hj,hk.1,hT.mono wI,hC,iB l 0,e2,λH4 s4=>⟨_,rfl,?_⟩⟩;have Xg:=wI.trans s4;refine BR (λe4=>?_) (λe4=>?_)
  ·have ec:codeOf s j af l=4:=by unfold codeOf;rw [if_neg n1,if_neg n2,if_neg n3,if_pos e4]
   rw [ec] at q;exact q H4 Xg
  have n4: ¬((spansOf 0 l).zip l).all (J5 s j af)=false:=by rw [e4];simp
  refine ⟨_,rfl,_,rfl,_,rfl,_,rfl,h,s,fl,j,af,lt,lc,l,_,rfl,hh.mono Xg,hj,hk.1,hT.mono Xg,hC.mono s4,iB l 0,e2,e3,λH5 s5=>⟨_,rfl,?_⟩⟩;have s15:=Xg.trans s5;refine BR (λe5=>?_) (λe5=>?_)
  ·have ec:codeOf s j af l=5:=by unfold codeOf;rw [if_neg n1,if_neg n2,if_neg n3,if_neg n4,if_pos e5]
   rw [ec] at q;exact q H5 s15
  have n5: ¬(bv l.length).all (Jf s j af (ke s j (spansOf 0 l) l))=false:=by rw [e5];simp
  have ec:codeOf s j af l=0:=by unfold codeOf;rw [if_neg n1,if_neg n2,if_neg n3,if_neg n4,if_neg n5]
  rw [ec] at q;exact q H5 s15
theorem m6:ba ["house","kind","threes","components","three","one"] ["house","kind","threes"] (aM (top 81)):=fi
theorem Lw (D:Dn K mg "total_of" (top 81) ["house","kind","threes"]) (b:Bl mg) (G1:Fn P w K mg base "find_components" 4 ["house","threes"] (pC K)) (G2:Fn P w K mg base "pays" 1 ["house","kind","fare","component"] (DT K)):
  Fn P w K mg base "total_of" 5 ["house","kind","threes"] (Fh K):=by
 refine D.go m6 λf db A outer s H vs Q E hr h=>?_
 ·intro Xc;obtain ⟨h,s,fl,j,af,lt,l,rfl,hh,hj,hk,hT,Qb,h0,Dm,hall,q⟩:=h;have hu:=jH hr;obtain ⟨kvs,hf,fd⟩:=hh.vT;obtain ⟨ps,hl,gE⟩:=id hT;refine ⟨_,(am (st 3 m6.nd (pc G1 hr (ae (pv 0) (ae (pv 2) ax))))
   (aA (aX (dU (zX rfl) rfl b.sum hX (ae (ir rfl m6.nd (Ko rfl b.zip (ae (pv 2) (ae (pv 3) ax))) (cT (own:= [("three",4),("one",5)]) (by kernel_rfl))
    (λ_ _ _ _ _=>(gT K (n:=2) rfl (cF (gn 4 m6.nd) (cF (gn 5 m6.nd) gX)))) (λ_ _ _ _ _=>eY)
    (λ_ _ _ _ _=>(pc G2 hr (ae (pv 0) (ae (pv 1) (ae (oy hu (eF K (pv 0)) (Ml K (pv 4) aF) (λ_ _=>rfl)) (ae (pv 5) ax))))))) ax))))),?_⟩
  refine ⟨_,rfl,_,rfl,h,s,fl,j,lt,l,rfl,hh,hj,hT,Dm,Qb,λH1 lc s1 hC=>?_⟩;obtain ⟨lH,hc,nv⟩:=hC;have hlen:=iB l 0;refine ⟨_,rfl,_,rfl,lt,lc,_,_,rfl, .of (s1 _ _ hl), .of hc,λD hD=>Et (n:=l.length) (λn H'=>aD H1 H'/\H' D=some (.lst ((((ke s j (spansOf 0 l) l).take n).map λx=>pay s af x.2.1 x.1).map V.int))) ⟨aD.new hD,ak⟩ (λm H' hm zz=>?_) (λH' zz=>⟨_,_, .of (zz.1 _ _ (s1 _ _ hl)), .of (zz.1 _ _ hc), .inl (by rw [ab,gE.1];exact ay _)⟩) ?_ ?_⟩
  ·obtain ⟨p,hp⟩: ∃p,ps[m]?=some p:=⟨_,ao (by rw [gE.1];exact hm)⟩
   obtain ⟨a,ha⟩: ∃a,lH[m]?=some a:=⟨_,ao (by rw [nv.1,hlen];exact hm)⟩
   exact ⟨_,_,_,_, .of (zz.1 _ _ (s1 _ _ hl)), .of (zz.1 _ _ hc),cg hp,cg ha⟩
  ·rintro _ _ _ _ m H2 v H2' hm ⟨s2,h2⟩ ⟨T,vx,vy,rfl,Ll,rfl,Vu,ZC⟩;obtain ⟨p,hp,rfl⟩:=b0 (Vu _ (.of (s2 _ _ (s1 _ _ hl))));obtain ⟨a,ha,rfl⟩:=b0 (ZC _ (.of (s2 _ _ hc)));obtain ⟨x,hx,pP⟩:=gE.get' hp;obtain ⟨c,Tx,cat⟩:=nv.get' ha;have s3:aD H2 (upd H2 T (.tup [.ref p, .ref a])):=aD.new Ll;have wI:=(s1.trans s2).trans s3;have Xp:=yS (s:=s) (j:=j) Tx hx;obtain ⟨fa,e1,rV,fm⟩:=fd.get hh.ok hall (aH hx);refine ⟨T,_,rfl, .of ak,rfl,_,_,rfl,_,_,rfl,rfl,rfl,?_⟩;refine ⟨_,rfl,_,rfl,_,rfl,aL (hh.g7.mono wI) ⟨_,rfl,p,_,1,_,rfl,rfl, .of (wI _ _ pP),at_of (j:=1) rfl rfl,h.f,_,rfl, .inl ⟨kvs,az x.2.1, .inl (wI _ _ hf),rfl,e1.symm⟩,_,rfl,h,s,fl,af,fa,a,_,j,c.1,c.2,_,rfl,hh.mono wI,hk,rV.mono wI,fm,cat.mono (s2.trans s3),_,s3 _ _ h2,?_,aD.put (s2.trans s3) hD,?_⟩⟩
   ·rw [ab,ab,bc];have:sizeLine=16777216:=af5;omega
   ·rw [ak,di Xp,aP,aP];rfl
  ·rintro H2 ⟨s2,h2⟩;rw [ck (by rw [AE hlen];exact ay _)] at h2;exact ⟨D,_,rfl, .of h2,q H2 (s1.trans s2)⟩
theorem u1:ba ["house","kind","row","threes","wrong"] ["house","kind","row"] (aM (top 82)):=fi
theorem IM {s:ag} {j:ai} {af:Int} {l:List gI} (h:codeOf s j af l=0):risesTo j.segs.length 0 l=true/\(l.all λx=>(fareOf s x.2.1).isSome)=true:=by
 unfold codeOf at h;by_cases c1:risesTo j.segs.length 0 l=false
 ·rw [if_pos c1] at h;cases h
 ·rw [if_neg c1] at h;by_cases c2:(l.all λx=>(fareOf s x.2.1).isSome)=false
  ·rw [if_pos c2] at h;cases h
  ·exact ⟨lG _▸c1,lG _▸c2⟩
theorem LW (D:Dn K mg "check_threes" (top 82) ["house","kind","row"]) (c:Cs mg) (G1:Fn P w K mg base "split_threes" 1 ["row"] Fk) (G2:Fn P w K mg base "find_wrong" 7 ["house","kind","threes"] (Fe K)) (G3:Fn P w K mg base "total_of" 5 ["house","kind","threes"] (Fh K)):
  Fn P w K mg base "check_threes" 8 ["house","kind","row"] (Fu K):=by
 refine D.go u1 λf db A outer s H vs Q E hr h=>?_
 ·intro Xc;obtain ⟨h,s,fl,j,af,lw,rw,rfl,hh,hj,hk,hw,h24,h3,h0,q⟩:=h;have Xz:(threes rw).length<=20:=by rw [lM];omega
  rw [ER (hh.ok.jo j hj).le] at q;refine ⟨_,(am (st 3 u1.nd (pc G1 hr (ae (pv 2) ax)))
   (am (st 4 u1.nd (pc G2 hr (ae (pv 0) (ae (pv 1) (ae (pv 3) ax)))))
   (am (cE (cB vj (pv 4) (kj c.kF) (bS _))
    (aA (aX (bJ (ae (pv 4) (ae aF ax)))))
    bI)
   (aA (aX (bJ (ae (kj c.kF) (ae (pc G3 hr (ae (pv 0) (ae (pv 1) (ae (pv 3) ax)))) ax)))))))),?_⟩
  refine mL ?_
  intros
  refine ⟨_,rfl,lw,rw,rfl,hw,by omega,h3,λH1 lt s1 Ro hT=>?_⟩;refine ⟨_,rfl,_,rfl,_,rfl,h,s,fl,j,af,lt,_,rfl,hh.mono s1,hj,hk,hT,Xz,h0,λH2 s2=>?_⟩;have ig:=s1.trans s2;refine ⟨_,rfl,rfl,_,rfl,?_⟩;by_cases e:codeOf s j af (threes rw)=0
  ·refine Td e ?_;obtain ⟨g1,g2⟩:=IM e;rw [e,if_pos rfl] at q;exact ⟨_,rfl,_,rfl,_,rfl,h,s,fl,j,af,lt,_,rfl,hh.mono ig,hj,hk,hT.mono s2,Xz,h0,g1,g2,λH3 s3=>⟨(by show 2<=sizeLine;decide),λl nl=>q _ l ((ig.trans s3).trans (aD.new nl)) ak⟩⟩
  ·refine neT e ?_;rw [if_neg e] at q;exact ⟨_,rfl,(by show 2<=sizeLine;decide),λl nl=>q _ l (ig.trans (aD.new nl)) ak⟩
theorem Hj:ba ["house","numbers","row"] ["house","numbers","row"] (aM (top 114)):=fi
theorem Iu (D:Dn K mg "tell_check" (top 114) ["house","numbers","row"]) (G:Fn P w K mg base "check_threes" 8 ["house","kind","row"] (Fu K)):Fn P w K mg base "tell_check" 9 ["house","numbers","row"] (fy K FP Lo):=by
 refine D.go Hj λf db A outer s H vs Q E hr h=>?_
 ·intro Xc;obtain ⟨h,s,fl,j,ln,lw,ns,rw,rfl,hh,hj,hn,hw,⟨af,rfl,hk,h24,h3,h0⟩,q⟩:=h;refine ⟨_,(aA (aX (bX pJ (bJ (ae aF ax)) (pc G hr (ae (pv 0) (ae (bf aY (pv 1) aF (λ_ _=>rfl)) (ae (pv 2) ax))))))),?_⟩;refine ⟨(by show 1<=sizeLine;decide),λl0 n0=>?_⟩;have s1:aD H (upd H l0 (.lst [.int 0])):=aD.new n0;refine ⟨_,rfl,_,rfl,ln,_,0,_,rfl,rfl, .of (s1 _ _ hn),at_of (j:=0) rfl rfl,_,rfl,h,s,fl,j,af,lw,rw,rfl,hh.mono s1,hj,hk,s1 _ _ hw,h24,h3,h0,λH2 l s2 hl=>?_⟩;exact ⟨l0,l,_,_,rfl,rfl,s2 _ _ ak,hl,(by show 1+2<=sizeLine;decide),λlz nz=>q _ lz ((s1.trans s2).trans (aD.new nz)) ((s1.trans s2).free nz) ak⟩
end
end Lf
namespace Lf
open Vbahaf (Call step inRange fareNumbers withFare fareOf)
def zv:List Str:= ["key","carrier","near","far","way","amount","classes","weekdays","days_ahead","least_stay","most_stay","group","open_ends","kinds","most_segments","numbers","origin","target","day","booking","now","segments"]
def JIs (K:aa) (H:Hp) (hp:List Addr) (oj:Option ai) (jv:V):Prop:=match oj with
 |none=>jv= .fE
 |some j=> ∃ja,jv= .ref ja/\md K H hp ja j
structure wM (H:Hp) (hp c:Addr):Prop where
 ins: ∀C dx fs,H c=some (.ins C dx fs)->∀f∈zv,fs.lookup f=none
 lst: ∀xs:List V,H c=some (.lst xs)->c=hp/\xs.length=5
section
variable {H H':Hp} {hp c z:Addr}
theorem wM.fld (o:wM H hp c) (b:dB c H H') {a:Addr} {f:Str} {v:V} (x:gF K H a f v) (hf:f∈zv:=by decide+kernel):gF K H' a f v:=by
 obtain ⟨C,dx,fs,h1,h2,h3,h4⟩:=x;refine ⟨C,dx,fs,b _ _ (λe=>?_) h1,h2,h3,h4⟩;rw [e] at h1;rw [o.ins _ _ _ h1 f hf] at h4;cases h4
theorem wM.fare (o:wM H hp c) (b:dB c H H') {a:Addr} {f:aq} (x:dr K H a f):dr K H' a f:=
 ⟨o.fld b x.key,o.fld b x.carrier,o.fld b x.near,o.fld b x.TF,o.fld b x.way,o.fld b x.amount,o.fld b x.classes,o.fld b x.weekdays,o.fld b x.l8,o.fld b x.lY,o.fld b x.oF,o.fld b x.group,o.fld b x.oB,o.fld b x.kinds,o.fld b x.iK⟩
theorem wM.HG (o:wM H hp c) (b:dB c H H') {a:Addr} {f:aq} (x:wo K H z f a):wo K H' z f a:=by
 obtain ⟨l,h0,h1,h2⟩:=x;refine ⟨l,h0,o.fld b h1,b _ _ (λe=>?_) h2⟩;rw [e] at h2;have:=(o.lst _ h2).2;rw [ab] at this;exact absurd this (by show¬15=5;decide)
theorem wM.seg (o:wM H hp c) (b:dB c H H') {a:Addr} {g:bT} (x:jf K H a g):jf K H' a g:=
 ⟨o.fld b x.carrier,o.fld b x.origin,o.fld b x.target,o.fld b x.day,o.fld b x.uk⟩
theorem wM.PZ (o:wM H hp c) (b:dB c H H') {l:Addr} {xs:List V} (h:H l=some (.lst xs)) (n:l≠hp):H' l=some (.lst xs):=
 b _ _ (λe=>n (by rw [e] at h⊢;exact (o.lst _ h).1)) h
theorem wM.Zn (o:wM H hp c) (b:dB c H H') {a:Addr} {j:ai} (x:md K H [hp,z] a j):md K H' [hp,z] a j:=by
 obtain ⟨h1,l,as,n,h2,h3,h4,h5⟩:=x;refine ⟨o.fld b h1,l,as,n,o.fld b h2,o.PZ b h3 (λe=>n (by rw [e];exact aN)),h4.mono λ_ _ z=>o.seg b z,h5.mono λ_ _ z=>?_⟩;obtain ⟨l',n',z1,z2⟩:=z;exact ⟨l',n',o.fld b z1,o.PZ b z2 (λe=>n' (by rw [e];exact aN))⟩
theorem wM.jm (o:wM H hp c) (b:dB c H H') {oj:Option ai} {jv:V} (m:JIs K H [hp,z] oj jv):JIs K H' [hp,z] oj jv:=by
 cases oj with
 |none=>exact m
 |some j=>
  obtain ⟨ja,e,z⟩:=m;exact ⟨ja,e,o.Zn b z⟩
end
theorem Ky {H:Hp} {hp c:Addr} {kvs:List (Key×V)} (h:H c=some (.dK kvs)):wM H hp c:=⟨λ_ _ _ z=>(by rw [h] at z;cases z),λ_ z=>(by rw [h] at z;cases z)⟩
theorem Kx {H:Hp} {hp c:Addr} {kvs:List (List Key×V)} (h:H c=some (.dT kvs)):wM H hp c:=⟨λ_ _ _ z=>(by rw [h] at z;cases z),λ_ z=>(by rw [h] at z;cases z)⟩
theorem Lb (h:HA) (u:Int) (jv:V): ∀f∈zv,(M8 h u jv).lookup f=none:=by
 intro f hf;have key: ∀f∈zv,f≠"fares"/\f≠"together"/\f≠"floors"/\f≠"taxes"/\f≠"percents"/\f≠"unit"/\f≠"journey" :=by decide+kernel
 obtain ⟨a,b,c,d,e,g,i⟩:=key f hf;unfold M8;simp [fO,a,b,c,d,e,g,i,beq_eq_false_iff_ne.mpr]
theorem UW {K:aa} {H:Hp} {h:HA} {s:ag} {fl:List aq} (x:aZ K H h s fl):wM H h.p h.a:=by
 obtain ⟨jv,i1,_⟩:=x.inst;refine ⟨λ_ _ _ z=>?_,λ_ z=>by rw [i1] at z;cases z⟩;rw [i1] at z;cases z;exact Lb h s.unit jv
theorem UV {K:aa} {H:Hp} {h:HA} {s:ag} {fl:List aq} (x:aZ K H h s fl):wM H h.p h.p:=by
 refine ⟨λ_ _ _ z=>(by rw [x.percents] at z;cases z),λxs z=>⟨rfl,?_⟩⟩;rw [x.percents] at z;cases z;rw [ab];exact x.ok.pl
def jp (zs:List (aq×Addr)):List (Key×V):=zs.map λy=>(az y.1.key,V.ref y.2)
theorem Jt {α β:Type}: ∀(zs:List (α×β)),(zs.map (·.1)).zip (zs.map (·.2))=zs
 | []=>rfl
 |z::zs=>by
  exact congrArg (λl=>z::l) (Jt zs)
theorem RD (zs:List (aq×Addr)):HU (zs.map (·.1)) (zs.map (·.2))=jp zs:=by
 unfold HU jp;rw [Jt]
theorem Gq {α β:Type} {R:α->β->Prop} {zs:List (α×β)} (h: ∀y∈zs,R y.1 y.2):bQ R (zs.map (·.1)) (zs.map (·.2)):=by
 refine ⟨by simp,λi a b ha hb=>?_⟩;rw [bp] at ha hb;cases e:zs[i]? with
 |none=>rw [e] at ha;cases ha
 |some y=>
  rw [e] at ha hb;cases ha;cases hb;exact h y (aH e)
theorem aZ.zs {K:aa} {H:Hp} {h:HA} {s:ag} {fl:List aq} (x:aZ K H h s fl): ∃zs:List (aq×Addr),zs.map (·.1)=fl/\H h.f=some (.dK (jp zs))/\∀y∈zs,dr K H y.2 y.1/\wo K H h.z y.1 y.2:=by
 obtain ⟨gH,h1,h2,h3⟩:=x.fares;have hl:fl.length=gH.length:=h2.1;refine ⟨fl.zip gH,by rw [ut];omega,?_,λy hy=>?_⟩
 ·rw [h1];rfl
 ·obtain ⟨i,hi⟩:=dE.mp hy;obtain ⟨e1,e2⟩:=cf.mp hi;exact ⟨h2.2 i _ _ e1 e2,h3.2 i _ _ e1 e2⟩
def Frame (h:HA) (H H':Hp):Prop:= ∀b o,b∉h.foot->H b=some o->H' b=some o
theorem xn {h:HA} {H H':Hp} (s:aD H H'):Frame h H H':=λb o _ e=>s b o e
theorem Frame.trans {h:HA} {H H1 H2:Hp} (a:Frame h H H1) (b:Frame h H1 H2):Frame h H H2:=λc o hc e=>b c o hc (a c o hc e)
theorem dB.frame {h:HA} {c:Addr} {H H':Hp} (s:dB c H H') (hc:c∈h.foot):Frame h H H':=λb o hb e=>s b o (λz=>hb (by rw [z];exact hc)) e
theorem aZ.AY {K:aa} {H:Hp} {h:HA} {s:ag} {fl:List aq} (x:aZ K H h s fl) {zs:List (aq×Addr)} {fs:List aq} (hp:(zs.map (·.1)).Perm fs) (ok:kE {s with fares:=fs}) (hz: ∀y∈zs,dr K H y.2 y.1/\wo K H h.z y.1 y.2):
  aZ K (upd H h.f (.dK (jp zs))) h {s with fares:=fs} (zs.map (·.1)):=by
 obtain ⟨zs0,_,hf,_⟩:=x.zs;have o:wM H h.p h.f:=Ky hf;have b:dB h.f H (upd H h.f (.dK (jp zs))):=dB.upd;obtain ⟨UZ,hc,perm,⟨jv,i1,i2⟩,_,⟨kt,t1,t2⟩,⟨ko,o1,o2⟩,⟨kx,x1,x2⟩,p,n1,n2⟩:=x;refine ⟨ok,hc,hp,⟨jv,bm i1 (i8 i1 hf rfl),o.jm (z:=h.z) (jv:=jv) b i2⟩,⟨zs.map (·.2),?_,Gq (zs:=zs) (R:=λf a=>dr K _ a f) λy hy=>o.fare b (hz y hy).1,Gq (zs:=zs) λy hy=>o.HG b (hz y hy).2⟩,⟨kt,bm t1 (i8 t1 hf rfl),t2⟩,⟨ko,bm o1 (i8 o1 hf rfl),o2⟩,⟨kx,bm x1 n1.symm,x2⟩,bm p (i8 p hf rfl),n1,n2⟩;rw [ak,RD]
theorem aZ.Hh {K:aa} {H:Hp} {h:HA} {s:ag} {fl:List aq} (x:aZ K H h s fl) {kvs:List (List Key×V)} {cs:List (Int×Int)} (ok:kE {s with combos:=cs}) (h1:(kvs.map (·.1)).Nodup) (h2: ∀k∈kvs.map (·.1), ∃g g':Int,k= [az g,az g']/\0<=g/\g<=7/\0<=g'/\g'<=7)
  (h3: ∀g g':Int,(cr kvs [az g,az g']).getD (.bl false)= .bl (cs.contains (g,g'))):aZ K (upd H h.t (.dT kvs)) h {s with combos:=cs} fl:=by
 obtain ⟨kt0,hf,_⟩:=x.groups;have o:wM H h.p h.t:=Kx hf;have b:dB h.t H (upd H h.t (.dT kvs)):=dB.upd;obtain ⟨UZ,hc,perm,⟨jv,i1,i2⟩,⟨gH,f1,f2,f3⟩,⟨kt,t1,t2⟩,⟨ko,o1,o2⟩,⟨kx,x1,x2⟩,p,n1,n2⟩:=x;exact ⟨ok,hc,perm,⟨jv,bm i1 (i8 i1 hf rfl),o.jm (z:=h.z) (jv:=jv) b i2⟩,⟨gH,bm f1 (i8 f1 hf rfl),f2.mono λ_ _ z=>o.fare b z,f3.mono λ_ _ z=>o.HG b z⟩,⟨kvs,ak,h1,h2,h3⟩,⟨ko,bm o1 n2.symm,o2⟩,⟨kx,bm x1 (i8 x1 hf rfl),x2⟩,bm p (i8 p hf rfl),n1,n2⟩
theorem aZ.AX {K:aa} {H:Hp} {h:HA} {s:ag} {fl:List aq} (x:aZ K H h s fl) {ps:List Int} (ok:kE {s with percents:=ps}):aZ K (upd H h.p (.lst (ps.map V.int))) h {s with percents:=ps} fl:=by
 have o:=UV x;have hf:=x.percents;have b:dB h.p H (upd H h.p (.lst (ps.map V.int))):=dB.upd;obtain ⟨UZ,hc,perm,⟨jv,i1,i2⟩,⟨gH,f1,f2,f3⟩,⟨kt,t1,t2⟩,⟨ko,o1,o2⟩,⟨kx,x1,x2⟩,p,n1,n2⟩:=x;exact ⟨ok,hc,perm,⟨jv,bm i1 (i8 i1 hf rfl),o.jm (z:=h.z) (jv:=jv) b i2⟩,⟨gH,bm f1 (i8 f1 hf rfl),f2.mono λ_ _ z=>o.fare b z,f3.mono λ_ _ z=>o.HG b z⟩,⟨kt,bm t1 (i8 t1 hf rfl),t2⟩,⟨ko,bm o1 (i8 o1 hf rfl),o2⟩,⟨kx,bm x1 (i8 x1 hf rfl),x2⟩,ak,n1,n2⟩
theorem aZ.Fw {K:aa} {H:Hp} {h:HA} {s:ag} {fl:List aq} (x:aZ K H h s fl) {u:Int} {jv:V} {oj:Option ai} (ok:kE {s with unit:=u,journey:=oj}) (hj:JIs K H h.bn oj jv):aZ K (upd H h.a (.ins h.C h.dx (M8 h u jv))) h {s with unit:=u,journey:=oj} fl:=by
 have o:=UW x;have b:dB h.a H (upd H h.a (.ins h.C h.dx (M8 h u jv))):=dB.upd;obtain ⟨UZ,hc,perm,⟨jv0,hf,i2⟩,⟨gH,f1,f2,f3⟩,⟨kt,t1,t2⟩,⟨ko,o1,o2⟩,⟨kx,x1,x2⟩,p,n1,n2⟩:=x;exact ⟨ok,hc,perm,⟨jv,ak,o.jm (z:=h.z) (jv:=jv) b hj⟩,⟨gH,bm f1 (i8 f1 hf rfl),f2.mono λ_ _ z=>o.fare b z,f3.mono λ_ _ z=>o.HG b z⟩,⟨kt,bm t1 (i8 t1 hf rfl),t2⟩,⟨ko,bm o1 (i8 o1 hf rfl),o2⟩,⟨kx,bm x1 (i8 x1 hf rfl),x2⟩,bm p (i8 p hf rfl),n1,n2⟩
inductive yI (K:aa) (ok:List Int->List Int->Call->Prop) (vs:List V) (H:Hp) (Q:VK):Prop
 |mk (h:HA) (s:ag) (fl:List aq) (ln lw:Addr) (ns rw:List Int) (c:Call):vs= [.ref h.a, .ref ln, .ref lw]->aZ K H h s fl->H ln=some (.lst (ns.map V.int))->H lw=some (.lst (rw.map V.int))->ok ns rw c->inRange c=true->(ln≠h.z/\∃o,H h.z=some o)->(∀(H':Hp) (l:Addr) (Sq:List aq),Frame h H H'->H l=none->H' l=some (.lst ((step s c).2.map V.int))->aZ K H' h (step s c).1 Sq->Q (.ref l) H')->yI K ok vs H Q
def dL (K:aa) (ok:List Int->List Int->Call->Prop):Sp:=λvs H Q _=>yI K ok vs H Q
end Lf
namespace Lf
open Vbahaf (Call step inRange fareNumbers withFare fareOf FARES)
def Eb (ns rw:List Int) (c:Call):Prop:= ∃f,c= .fare f/\ns=fareNumbers f
def vn (ns rw:List Int) (c:Call):Prop:= ∃k,c= .unfare k/\ns= [k]
theorem Ba {f:aq}: ∀{fl:List aq},(fl.map λg=>g.key).Nodup->(∃g∈fl,g.key=f.key)->(fl.map λg=>if g.key=f.key then f else g).Perm (f::fl.filter λg=>decide (g.key≠f.key))
 | [],_,h=>by obtain ⟨_,h,_⟩:=h;cases h
 |a::fl,nd,h=>by
  have nd:(a.key::fl.map λg=>g.key).Nodup:=nd;obtain ⟨n1,n2⟩:=bj.mp nd;by_cases e:a.key=f.key
  ·have VM: ∀g∈fl,g.key≠f.key:=λg hg z=>n1 (by rw [e, <-z];exact aj.mpr ⟨g,hg,rfl⟩);rw [bb,if_pos e,Di (by simpa using e),jU.mpr (λg hg=>by simpa using VM g hg)];refine mR _ (i0 ?_);refine (bO λg hg=>if_neg (VM g hg)).trans ?_;simp
  ·obtain ⟨g,hg,eg⟩:=h;have hg:g∈fl:=by
    rcases aB.mp hg with rfl|hg
    ·exact absurd eg e
    ·exact hg
   rw [bb,if_neg e,Dh (by simpa using e)];exact ((Ba n2 ⟨g,hg,eg⟩).cons a).trans (tW _ _ _)
theorem keys_nodup {K:aa} {H:Hp} {h:HA} {s:ag} {fl:List aq} (x:aZ K H h s fl):(fl.map λf=>f.key).Nodup:=(x.perm.map _).nodup_iff.mpr (by
 have:=x.ok.fs;rw [Yo,dw];exact this.imp λ{a b} h=>by omega)
theorem HR (zs:List (aq×Addr)) (f:aq) (x:Addr):jp zs++ [(az f.key, .ref x)]=jp (zs++ [(f,x)]):=by unfold jp;rw [aP];rfl
theorem KP (zs:List (aq×Addr)) (f:aq) (x:Addr) (h:(cr (jp zs) (az f.key)).isSome=true):putK (jp zs) (az f.key) (.ref x)=jp (zs.map λy=>if y.1.key=f.key then (f,x) else y):=by
 unfold putK;rw [if_pos (by rw [fL];exact h)];unfold jp;rw [bi,bi];refine bO λy _=>?_;show (if (az y.1.key:Key)=az f.key then ((az y.1.key:Key),V.ref x) else (az y.1.key,V.ref y.2))=_;by_cases e:y.1.key=f.key
 ·rw [if_pos (by rw [e])];show _=(az (if y.1.key=f.key then (f,x) else y).1.key,V.ref (if y.1.key=f.key then (f,x) else y).2)
  rw [if_pos e,e]
 ·rw [if_neg (λz=>e (cU z))];show _=(az (if y.1.key=f.key then (f,x) else y).1.key,V.ref (if y.1.key=f.key then (f,x) else y).2)
  rw [if_neg e]
theorem HS (zs:List (aq×Addr)) (k:Int):gO (jp zs) (az k)=jp (zs.filter λy=>decide (y.1.key≠k)):=by
 unfold gO jp;rw [ib]
 congr 1
 refine iy λy _=>?_;show decide ((az y.1.key:Key)≠az k)=decide (y.1.key≠k);rw [decide_eq_decide];exact ⟨λz e=>z (by rw [e]),λz e=>z (cU e)⟩
section
theorem TZ {H:Hp} {s:ag} {kvs:List (Key×V)} (fd:An K H s kvs) (k:Int):(cr kvs (az k)).isSome=(fareOf s k).isSome:=by
 cases e:fareOf s k with
 |none=>rw [fd.none_ k e];rfl
 |some f=>
  obtain ⟨fa,e1,_⟩:=fd.xK k f e;rw [e1];rfl
theorem A3:ba ["house","numbers","row","fare"] ["house","numbers","row"] (aM (top 18)):=fi
theorem LK (D:Dn K mg "put_fare" (top 18) ["house","numbers","row"]) (b:Bl mg) (c:Cs mg) (G:Cl P w K mg base "Fare" t.Fare 1 ["self","numbers"] (JS K t.Fare)):Fn P w K mg base "put_fare" 3 ["house","numbers","row"] (dL K Eb):=by
 refine D.go A3 λf db A outer s H vs Q E hr h=>?_
 ·intro Xc;obtain ⟨h,s,fl,ln,lw,ns,rw,cl,rfl,hh,hn,hw,⟨f,rfl,rfl⟩,iF,BW,q⟩:=h;have hu:=jH hr;have vo:=j4 hh.ok iF;refine ⟨_,(am (st 3 A3.nd (MX G hr (ae (pv 1) ax)))
   (am (cE (cB fV (aT (pv 3) rfl) (aT (pv 3) rfl) (bS _))
    (aA (aX (bJ (ae (kj c.sk) ax))))
    bI)
   (am (cE (pG (fT (oz hu (aT (pv 3) rfl) (aT (pv 0) rfl))) (lQ (cB FN (Mj b.len (aT (pv 0) rfl)) (kj c.E2) (bS _)))).pt
    (aA (aX (bJ (ae (kj c.SW) ax))))
    bI)
   (am (lR hu (aT (pv 0) rfl) (aT (pv 3) rfl) (pv 3) rfl)
   (aA (aX (bJ (ae aF ax)))))))),?_⟩
  refine NL ?_
  intros
  refine ⟨_,rfl,λx dx nx tD Rp=>⟨x,dx,ln,f,rfl,ak,dQ nx tD _ _ hn,λH1 b1 rV Sd=>⟨rfl,?_⟩⟩⟩;have s1:aD H H1:=dB.same (dQ nx tD) nx b1;have oU:=hh.mono s1;have K6:=s1 _ _ hn;refine ⟨_,rfl,aL rV.near ⟨_,rfl,aL rV.TF ⟨rfl,_,rfl,?_⟩⟩⟩;by_cases e1:f.src=f.dst
  ·refine eqT e1 ?_;have es:step s (.fare f)=(s,[-6]):=if_pos e1;rw [es] at q;exact ⟨(by show 1<=sizeLine;decide),λl nl=>q _ l fl (xn (s1.trans (aD.new nl))) (s1.free nl) ak (oU.mono (aD.new nl))⟩
  ·refine Nd e1 ?_;obtain ⟨zs,ez,hf,hz⟩:=oU.zs;obtain ⟨kvs,V5,fd⟩:=oU.vT;have ek:kvs=jp zs:=by rw [hf] at V5;cases V5;rfl
   subst ek;have Ov:=TZ fd f.key;refine ⟨_,rfl,aL rV.key ⟨_,rfl,aL oU.g7 ⟨h.f,_,rfl,j0.k (k:=az f.key) hf,_,rfl,?_⟩⟩⟩;have put: ¬((fareOf s f.key).isNone=true/\FARES<=s.fares.length)->∀l,(upd H1 h.f (.dK (putK (jp zs) (az f.key) (.ref x)))) l=none->Q (.ref l) (upd (upd H1 h.f (.dK (putK (jp zs) (az f.key) (.ref x)))) l (.lst [.int 0])):=λfZ l nl=>by
    have es:step s (.fare f)=({s with fares:=withFare s.fares f},[0]):=by
     show (if f.src=f.dst then _ else if (fareOf s f.key).isNone=true/\FARES<=s.fares.length then _ else _)=_;rw [if_neg e1,if_neg fZ]
    rw [es] at q vo;have hx:dr K H1 x f/\wo K H1 h.z f x:=⟨rV,ln,BW.1,Sd,K6⟩
    have key: ∃TX:List (aq×Addr),putK (jp zs) (az f.key) (.ref x)=jp TX/\(TX.map (·.1)).Perm (withFare s.fares f)/\∀y∈TX,dr K H1 y.2 y.1/\wo K H1 h.z y.1 y.2:=by
     cases e2:fareOf s f.key with
     |none=>
      refine ⟨zs++ [(f,x)],?_,?_,λy hy=>?_⟩
      ·rw [qx _ (fd.none_ _ e2),HR]
      ·rw [aP,ez];refine iZ ?_ (kg s.fares f).symm;rw [jU.mpr (λg hg=>by simpa using sJ.mp e2 g hg)];exact (oR).trans (hh.perm.cons f)
      ·rcases bF.mp hy with hy|hy
       ·exact hz y hy
       ·rw [aR.mp hy];exact hx
     |some g=>
      obtain ⟨gm,ge⟩:=(iU hh.ok).mp e2;refine ⟨zs.map λy=>if y.1.key=f.key then (f,x) else y,?_,?_,λy hy=>?_⟩
      ·exact KP zs f x (by rw [Ov,e2];rfl)
      ·rw [bi];have e3:zs.map ((·.1)∘λy=>if y.1.key=f.key then (f,x) else y)=fl.map λg=>if g.key=f.key then f else g:=by
        rw [<-ez,bi];refine bO λy _=>?_;show (if y.1.key=f.key then (f,x) else y).1=if y.1.key=f.key then f else y.1
        by_cases z:y.1.key=f.key
        ·rw [if_pos z,if_pos z]
        ·rw [if_neg z,if_neg z]
       rw [e3];refine (Ba (keys_nodup hh) ⟨g,hh.perm.mem_iff.mpr gm,ge⟩).trans (iZ ?_ (kg s.fares f).symm);exact (hh.perm.filter _).cons f
      ·obtain ⟨y0,hy0,rfl⟩:=aj.mp hy;by_cases z:y0.1.key=f.key
       ·rw [if_pos z];exact hx
       ·rw [if_neg z];exact hz y0 hy0
    obtain ⟨TX,k1,k2,k3⟩:=key;rw [k1] at nl⊢;have H2:=oU.AY k2 vo k3;have fr:Frame h H1 (upd H1 h.f (.dK (jp TX))):=dB.frame dB.upd (by unfold HA.foot;simp);have rh:H1 l=none:=by
     by_cases e:l=h.f
     ·rw [e,ak] at nl;cases nl
     ·rw [bK e] at nl;exact nl
    exact q _ l _ (((xn s1).trans fr).trans (xn (aD.new nl))) (s1.free rh) ak (H2.mono (aD.new nl))
   have hlen:(jp zs).length<sizeLine:=by
    rw [fd.len];have:=hh.ok.fl;have:sizeLine=16777216:=af5;omega
   rw [Ov];cases e2:fareOf s f.key with
   |some g=>
    refine tF ?_;refine ⟨_,rfl,_,rfl,aL oU.g7 ⟨_,rfl,aL rV.key ⟨h.f,_,rfl,nX.k (k:=az f.key) hf hlen,?_⟩⟩⟩;exact ⟨(by show 1<=sizeLine;decide),λl nl=>put (λz=>by rw [e2] at z;exact absurd z.1 (by simp)) l nl⟩
   |none=>
    refine oT ?_;refine ⟨_,rfl,aL oU.g7 ⟨h.f,_,rfl,hf,_,_,rfl,rfl,_,rfl,?_⟩⟩;by_cases e3:FARES<=s.fares.length
    ·refine dT (by rw [fd.len];have:FARES=60:=rfl;omega) ?_;have es:step s (.fare f)=(s,[-8]):=by
      show (if f.src=f.dst then _ else if (fareOf s f.key).isNone=true/\FARES<=s.fares.length then _ else _)=_;rw [if_neg e1,if_pos ⟨by rw [e2];rfl,e3⟩]
     rw [es] at q;exact ⟨(by show 1<=sizeLine;decide),λl nl=>q _ l fl (xn (s1.trans (aD.new nl))) (s1.free nl) ak (oU.mono (aD.new nl))⟩
    ·refine dF (by rw [fd.len];have:FARES=60:=rfl;omega) ?_;refine ⟨_,rfl,_,rfl,aL oU.g7 ⟨_,rfl,aL rV.key ⟨h.f,_,rfl,nX.k (k:=az f.key) hf hlen,?_⟩⟩⟩;exact ⟨(by show 1<=sizeLine;decide),λl nl=>put (λz=>e3 z.2) l nl⟩
theorem A1:ba ["house","numbers","row","key"] ["house","numbers","row"] (aM (top 19)):=fi
theorem Lz (D:Dn K mg "take_fare" (top 19) ["house","numbers","row"]) (c:Cs mg):Fn P w K mg base "take_fare" 1 ["house","numbers","row"] (dL K vn):=by
 refine D.go A1 λf db A outer s H vs Q E hr h=>?_
 ·intro Xc;obtain ⟨h,s,fl,ln,lw,ns,rw,cl,rfl,hh,hn,hw,⟨k,rfl,rfl⟩,iF,BW,q⟩:=h;have hu:=jH hr;have vo:=j4 hh.ok iF;obtain ⟨zs,ez,hf,hz⟩:=hh.zs;obtain ⟨kvs,V5,fd⟩:=hh.vT;have ek:kvs=jp zs:=by rw [hf] at V5;cases V5;rfl
  subst ek;have Ov:=TZ fd k;refine ⟨_,(am (st 3 A1.nd (bf aY (pv 1) aF (λ_ _=>rfl)))
   (am (cE (fT (oz hu (pv 3) (aT (pv 0) rfl)))
    (aA (aX (bJ (ae (kj c.Pn) ax))))
    bI)
   (am (eD (Ku (aT (pv 0) rfl) (pv 3) ⟨rfl,rfl,rfl,rfl⟩))
   (aA (aX (bJ (ae aF ax))))))),?_⟩
  refine mL ?_
  intros
  refine ⟨_,rfl,ln,_,0,_,rfl,rfl, .of hn,at_of (j:=0) rfl rfl,?_⟩;refine ⟨_,rfl,_,rfl,aL hh.g7 ⟨h.f,_,rfl,j0.k (k:=az k) hf,_,rfl,?_⟩⟩;rw [Ov];cases e2:fareOf s k with
  |none=>
   refine oT ?_;have es:step s (.unfare k)=(s,[-5]):=if_pos (by rw [e2];rfl);rw [es] at q;exact ⟨(by show 1<=sizeLine;decide),λl nl=>q _ l fl (xn (aD.new nl)) nl ak (hh.mono (aD.new nl))⟩
  |some g=>
   refine tF ?_;obtain ⟨fa,e3,_⟩:=fd.xK k g e2;refine ⟨_,rfl,aL hh.g7 ⟨h.f,rfl, .inl ⟨_, .inl hf⟩,_,rfl,_,az k,_,hf,rfl,e3,?_⟩⟩;have es:step s (.unfare k)=({s with fares:=s.fares.filter λf=>decide (f.key≠k)},[0]):=if_neg (by rw [e2];simp);rw [es] at q vo;rw [HS];have H2:=hh.AY (zs:=zs.filter λy=>decide (y.1.key≠k)) (fs:=s.fares.filter λf=>decide (f.key≠k)) (by
    have e4:(zs.filter λy=>decide (y.1.key≠k)).map (·.1)=fl.filter λf=>decide (f.key≠k):=by
     rw [<-ez,ib];rfl
    rw [e4];exact hh.perm.filter _) vo (λy hy=>hz y (au.mp hy).1)
   have fr:Frame h H (upd H h.f (.dK (jp (zs.filter λy=>decide (y.1.key≠k))))):=dB.frame dB.upd (by unfold HA.foot;simp);refine ⟨(by show 1<=sizeLine;decide),λl nl=>?_⟩;have rh:H l=none:=by
    by_cases e:l=h.f
    ·rw [e,ak] at nl;cases nl
    ·rw [bK e] at nl;exact nl
   exact q _ l _ (fr.trans (xn (aD.new nl))) rh ak (H2.mono (aD.new nl))
end
end Lf
namespace Lf
open Vbahaf (Call step inRange GROUPPAIRS GROUPS FLOORS TAXES withFloor withTax isFloor)
def Ec (ns rw:List Int) (c:Call):Prop:= ∃g h y,c= .combine g h y/\ns= [g,h,y]
def zu (ns rw:List Int) (c:Call):Prop:= ∃a b m,c= .floor a b m/\ns= [a,b,m]
def KA (ns rw:List Int) (c:Call):Prop:= ∃a m,c= .tax a m/\ns= [a,m]
theorem Eg {g h:Int}:(g,h)∈GROUPPAIRS↔(0<=g/\g<=7)/\(0<=h/\h<=7):=by
 have key: ∀x:Int,x∈GROUPS↔0<=x/\x<=7:=λx=>by
  unfold GROUPS;simp;omega
 unfold GROUPPAIRS;rw [aW];constructor
 ·rintro ⟨a,ha,hb⟩;obtain ⟨b,hb,e⟩:=aj.mp hb;cases e;exact ⟨(key _).mp ha,(key _).mp hb⟩
 ·rintro ⟨h1,h2⟩;exact ⟨g,(key _).mpr h1,aj.mpr ⟨h,(key _).mpr h2,rfl⟩⟩
theorem xZ {α:Type} [DecidableEq α]: ∀{l m:List α},l.Nodup->(∀a∈l,a∈m)->l.length<=m.length
 | [],_,_,_=>bw _
 |a::l,m,nd,h=>by
  obtain ⟨n1,n2⟩:=bj.mp nd;have ha:=h a aN;have:=xZ (l:=l) (m:=m.erase a) n2 λb hb=>(List.mem_erase_of_ne (λe=>n1 (by rw [<-e];exact hb))).mpr (h b (aE _ hb));rw [List.length_erase_of_mem ha] at this;have:0<m.length:=List.length_pos_of_mem ha;rw [aS];omega
section
variable {κ:Type} [DecidableEq κ]
theorem Bf {kvs:List (κ×V)} {k:κ} {v:V}:((putK kvs k v).map (·.1))=if (cr kvs k).isSome=true then kvs.map (·.1) else kvs.map (·.1)++ [k]:=by
 unfold putK;rw [fL];by_cases h:(cr kvs k).isSome=true
 ·rw [if_pos h,if_pos h,bi];refine bO λx _=>?_;show (if x.1=k then (x.1,v) else x).1=x.1;by_cases e:x.1=k
  ·rw [if_pos e]
  ·rw [if_neg e]
 ·rw [if_neg h,if_neg h,aP];rfl
theorem qh {kvs:List (κ×V)} {k:κ} (h:cr kvs k=none):k∉kvs.map (·.1):=by
 intro z;obtain ⟨x,hx,e⟩:=aj.mp z;have:=fL k kvs;rw [h] at this;have h2:(kvs.any λkv=>decide (kv.1=k))=true:=gL.mpr ⟨x,hx,by simpa using e⟩;rw [h2] at this;cases this
theorem Hv {kvs:List (κ×V)} {k:κ} {v:V} (nd:(kvs.map (·.1)).Nodup):((putK kvs k v).map (·.1)).Nodup:=by
 rw [Bf];by_cases h:(cr kvs k).isSome=true
 ·rw [if_pos h];exact nd
 ·rw [if_neg h];have hn:cr kvs k=none:=by simpa using h
  refine gr.mpr ⟨nd,bj.mpr ⟨gJ,eI⟩,λx hx y hy e=>?_⟩;have:=aR.mp hy;subst this e;exact qh hn hx
theorem rW {kvs:List (κ×V)} {k:κ} (h:cr kvs k=none):gO kvs k=kvs:=by
 unfold gO;exact jU.mpr λx hx=>by
  have:=qh h;simpa using λe=>this (aj.mpr ⟨x,hx,e⟩)
theorem Kc {k:κ} {v:V}: ∀{kvs:List (κ×V)},(kvs.map (·.1)).Nodup->(∃x∈kvs,x.1=k)->(kvs.map λkv=>if kv.1=k then (kv.1,v) else kv).Perm ((k,v)::kvs.filter λkv=>decide (kv.1≠k))
 | [],_,h=>by obtain ⟨_,h,_⟩:=h;cases h
 |a::kvs,nd,h=>by
  have nd:(a.1::kvs.map (·.1)).Nodup:=nd;obtain ⟨n1,n2⟩:=bj.mp nd;by_cases e:a.1=k
  ·have VM: ∀g∈kvs,g.1≠k:=λg hg z=>n1 (by rw [e, <-z];exact aj.mpr ⟨g,hg,rfl⟩);rw [bb,if_pos e,Di (by simpa using e),jU.mpr (λg hg=>by simpa using VM g hg),e];refine mR _ (i0 ?_);refine (bO λg hg=>if_neg (VM g hg)).trans ?_;simp
  ·obtain ⟨g,hg,eg⟩:=h;have hg:g∈kvs:=by
    rcases aB.mp hg with rfl|hg
    ·exact absurd eg e
    ·exact hg
   rw [bb,if_neg e,Dh (by simpa using e)];exact ((Kc n2 ⟨g,hg,eg⟩).cons a).trans (tW _ _ _)
theorem Ki {kvs:List (κ×V)} {k:κ} {v:V} (nd:(kvs.map (·.1)).Nodup):(putK kvs k v).Perm ((k,v)::gO kvs k):=by
 cases e:cr kvs k with
 |none=>
  rw [qx v e,rW e];exact oR
 |some v0=>
  unfold putK;rw [if_pos (by rw [fL,e];rfl)];exact Kc nd ⟨_,qi e,rfl⟩
def kD (kvs:List (κ×V)) (k:κ) (m:Int):List (κ×V)×Int:=if m=0 then (gO kvs k,0) else if cr kvs k=none/\40<=kvs.length then (kvs, -8) else (putK kvs k (.int m),0)
end
def JT:Sp:=λvs H Q _=>(∃(a:Addr) (kvs:List (Key×V)) (k:Key) (m:Int),vs= [.ref a,kV k, .int m]/\H a=some (.dK kvs)/\kvs.length<=40/\∀(H':Hp) (l:Addr),dB a H H'->H' a=some (.dK (kD kvs k m).1)->H l=none->H' l=some (.lst [.int (kD kvs k m).2])->Q (.ref l) H')∨
 ∃(a b:Addr) (kvs:List (List Key×V)) (k:List Key) (m:Int),vs= [.ref a, .ref b, .int m]/\H a=some (.dT kvs)/\H b=some (.tup (k.map kV))/\kvs.length<=40/\∀(H':Hp) (l:Addr),dB a H H'->H' a=some (.dT (kD kvs k m).1)->H l=none->H' l=some (.lst [.int (kD kvs k m).2])->Q (.ref l) H'
theorem iT {H:Hp} {a l:Addr} {o o':HO} (h:H a=some o) (n:upd H a o' l=none):H l=none/\l≠a:=by
 by_cases e:l=a
 ·rw [e,ak] at n;cases n
 ·rw [bK e] at n;exact ⟨n,e⟩
section
theorem JX:ba ["house","numbers","row"] ["house","numbers","row"] (aM (top 20)):=fi
theorem LL (D:Dn K mg "put_combination" (top 20) ["house","numbers","row"]):Fn P w K mg base "put_combination" 1 ["house","numbers","row"] (dL K Ec):=by
 refine D.go JX λf db A outer s H vs Q E hr h=>?_
 ·intro Xc;obtain ⟨h,s,fl,ln,lw,ns,rw,cl,rfl,hh,hn,hw,⟨g,g',y,rfl,rfl⟩,iF,BW,q⟩:=h;have hu:=jH hr;have vo:=j4 hh.ok iF;obtain ⟨kvs,ht,nd,hk,hv⟩:=hh.groups;have EA:((0<=g/\g<=7)/\(0<=g'/\g'<=7))/\(0<=y/\y<=1):=by
   have:(cA 0 7 g&&cA 0 7 g'&&cA 0 1 y)=true:=iF;simp only [aU,cM] at this;exact this
  have hlen:kvs.length<=64:=by
   have:=xZ (m:=GROUPPAIRS.map λx=>([az x.1,az x.2]:List Key)) nd λk Ie=>by
    obtain ⟨a,b,rfl,h1,h2,h3,h4⟩:=hk k Ie;exact aj.mpr ⟨(a,b),Eg.mpr ⟨⟨h1,h2⟩,h3,h4⟩,rfl⟩
   rw [ab,ab] at this;exact this
  refine ⟨_,(am (lR hu (aT (pv 0) rfl) (fB (ae (bf aY (pv 1) aF (λ_ _=>rfl)) (ae (bf aY (pv 1) aF (λ_ _=>rfl)) ax))) (dG fV (bf aY (pv 1) aF (λ_ _=>rfl)) aF (bS _)) rfl)
   (aA (aX (bJ (ae aF ax))))),?_⟩
  refine ⟨_,rfl,ln,_,2,_,rfl,rfl, .of hn,at_of (j:=2) rfl rfl,rfl,_,rfl,aL hh.yn ⟨_,rfl,ln,_,0,_,rfl,rfl, .of hn,at_of (j:=0) rfl rfl,_,rfl,ln,_,1,_,rfl,rfl, .of hn,at_of (j:=1) rfl rfl,(by show 2<=sizeLine;decide),λtp Za=>?_⟩⟩;have s1:aD H (upd H tp (.tup [.int g, .int g'])):=aD.new Za;have oU:=hh.mono s1;refine ⟨h.t,_,rfl,nX.t (k:= [az g,az g']) (s1 _ _ ht) ak (by have:sizeLine=16777216:=af5;omega),?_⟩;have es:step s (.combine g g' y)=({s with combos:=GROUPPAIRS.filter λx=>if x=(g,g') then decide (y=1) else s.combos.contains x},[0]):=rfl;rw [es] at q vo;have H2:=oU.Hh (kvs:=putK kvs [az g,az g'] (.bl (decide (V.int y=V.int 1)))) vo (Hv nd) (λk Ie=>by
   rw [Bf] at Ie;by_cases e:(cr kvs [az g,az g']).isSome=true
   ·rw [if_pos e] at Ie;exact hk k Ie
   ·rw [if_neg e] at Ie;rcases bF.mp Ie with z|z
    ·exact hk k z
    ·exact ⟨g,g',aR.mp z,EA.1.1.1,EA.1.1.2,EA.1.2.1,EA.1.2.2⟩) (λa b=>by
   rw [uA];by_cases e:(a,b)=(g,g')
   ·cases e;rw [if_pos rfl];show V.bl (decide (V.int y=V.int 1))=_
    congr 1
    rw [dV,bC];simp only [eL,au,decide_eq_true_eq];rw [if_pos trivial];simp only [decide_eq_true_eq];exact ⟨λz=>⟨Eg.mpr EA.1,z⟩,λz=>z.2⟩
   ·rw [if_neg (λz=>e (by
     simp only [eJ,kH,and_true] at z;rw [z.1,z.2])),hv]
    congr 1
    rw [bC];simp only [eL,au];rw [if_neg e];simp only [eL];exact ⟨λz=>⟨Eg.mpr (by have:=hh.ok.co _ z;exact ⟨⟨this.1,this.2.1⟩,this.2.2⟩),z⟩,λz=>z.2⟩)
  have fr:Frame h (upd H tp (.tup [.int g, .int g'])) (upd (upd H tp (.tup [.int g, .int g'])) h.t (.dT (putK kvs [az g,az g'] (.bl (decide (V.int y=V.int 1)))))):=dB.frame dB.upd (by unfold HA.foot;simp);refine ⟨(by show 1<=sizeLine;decide),λl nl=>?_⟩;obtain ⟨rh,_⟩:=iT (s1 _ _ ht) nl;exact q _ l _ (((xn s1).trans fr).trans (xn (aD.new nl))) (s1.free rh) ak (H2.mono (aD.new nl))
theorem Q8:ba ["amounts","name","amount"] ["amounts","name","amount"] (aM (top 21)):=fi
theorem So (D:Dn K mg "put_amount" (top 21) ["amounts","name","amount"]) (b:Bl mg) (c:Cs mg):Fn P w K mg base "put_amount" 1 ["amounts","name","amount"] JT:=by
 refine D.fn λf fd F=>F.go Q8 (λvs H Q E h=>?_) (λdb A outer s H vs Q E hr h=>?_)
 ·rcases h with ⟨_,_,_,_,rfl,_⟩|⟨_,_,_,_,_,rfl,_⟩<;>rfl
 ·intro Xc;have hu:=jH hr;have hz:sizeLine=16777216:=af5;rcases h with ⟨a,kvs,k,m,rfl,ha,h40,q⟩|⟨a,b',kvs,k,m,rfl,ha,hb,h40,q⟩
  ·refine ⟨_,(am (cE (cB fV (pv 2) aF (bS _))
     (am (eD (Kt (pv 0) (pv 1) lS ⟨rfl,rfl,rfl,rfl⟩))
    (aA (aX (bJ (ae aF ax)))))
     bI)
    (am (cE (pG (fT (oz hu (pv 1) (pv 0))) (lQ (cB FN (Mj b.len (pv 0)) (kj c.qR) (bS _)))).pt
     (aA (aX (bJ (ae (kj c.SW) ax))))
     bI)
    (am (lR hu (pv 0) (pv 1) (pv 2) rfl)
    (aA (aX (bJ (ae aF ax))))))),?_⟩
   refine mL ?_
   intros
   refine ⟨_,rfl,rfl,_,rfl,?_⟩;by_cases e0:m=0
   ·refine eqT e0 ?_;have ea:kD kvs k m=(gO kvs k,0):=if_pos e0;rw [ea] at q;refine ⟨_,rfl,a,rfl, .inl ⟨_, .inl ha⟩,_,rfl,kvs,k,ha,rfl,λv hv=>?_,λhv=>?_⟩
    ·refine ⟨(by show 1<=sizeLine;decide),λl nl=>?_⟩;obtain ⟨rh,Ee⟩:=iT ha nl;exact q _ l (dB.upd.trans (aD.but (aD.new nl))) (bm ak Ee.symm) rh ak
    ·refine ⟨(by show 1<=sizeLine;decide),λl nl=>?_⟩;exact q _ l (aD.but (aD.new nl)) (by rw [rW hv];exact bm ha (aG ha nl)) nl ak
   ·refine Nd e0 ?_;have put: ¬(cr kvs k=none/\40<=kvs.length)->∀l,(upd H a (.dK (putK kvs k (.int m)))) l=none->Q (.ref l) (upd (upd H a (.dK (putK kvs k (.int m)))) l (.lst [.int 0])):=λfZ l nl=>by
     have ea:kD kvs k m=(putK kvs k (.int m),0):=by unfold kD;rw [if_neg e0,if_neg fZ]
     rw [ea] at q;obtain ⟨rh,Ee⟩:=iT ha nl;exact q _ l (dB.upd.trans (aD.but (aD.new nl))) (bm ak Ee.symm) rh ak
    refine ⟨_,rfl,_,rfl,a,_,rfl,j0.k (k:=k) ha,_,rfl,?_⟩;cases ev:cr kvs k with
    |some v=>
     refine tF ?_;refine ⟨_,rfl,_,rfl,_,rfl,a,_,rfl,nX.k (k:=k) ha (by omega),?_⟩;exact ⟨(by show 1<=sizeLine;decide),λl nl=>put (λz=>by rw [ev] at z;cases z.1) l nl⟩
    |none=>
     refine oT ?_;refine ⟨_,rfl,a,_,rfl,ha,_,_,rfl,rfl,_,rfl,?_⟩;by_cases e1:40<=kvs.length
     ·refine dT (by omega) ?_;have ea:kD kvs k m=(kvs, -8):=by unfold kD;rw [if_neg e0,if_pos ⟨ev,e1⟩]
      rw [ea] at q;exact ⟨(by show 1<=sizeLine;decide),λl nl=>q _ l (aD.but (aD.new nl)) (bm ha (aG ha nl)) nl ak⟩
     ·refine dF (by omega) ?_;refine ⟨_,rfl,_,rfl,_,rfl,a,_,rfl,nX.k (k:=k) ha (by omega),?_⟩;exact ⟨(by show 1<=sizeLine;decide),λl nl=>put (λz=>e1 z.2) l nl⟩
  ·refine ⟨_,(am (cE (cB fV (pv 2) aF (bS _))
     (am (eD (HC hu (pv 0) (pv 1) lS ⟨rfl,rfl,rfl,rfl⟩))
    (aA (aX (bJ (ae aF ax)))))
     bI)
    (am (cE (pG (fT (oz hu (pv 1) (pv 0))) (lQ (cB FN (Sy b.len (pv 0)) (kj c.qR) (bS _)))).pt
     (aA (aX (bJ (ae (kj c.SW) ax))))
     bI)
    (am (lR hu (pv 0) (pv 1) (pv 2) rfl)
    (aA (aX (bJ (ae aF ax))))))),?_⟩
   refine mL ?_
   intros
   refine ⟨_,rfl,rfl,_,rfl,?_⟩;by_cases e0:m=0
   ·refine eqT e0 ?_;have ea:kD kvs k m=(gO kvs k,0):=if_pos e0;rw [ea] at q;refine ⟨_,rfl,a,rfl, .inr ⟨_, .inl ha⟩,_,rfl,kvs,k,b',ha,rfl,hb,λv hv=>?_,λhv=>?_⟩
    ·refine ⟨(by show 1<=sizeLine;decide),λl nl=>?_⟩;obtain ⟨rh,Ee⟩:=iT ha nl;exact q _ l (dB.upd.trans (aD.but (aD.new nl))) (bm ak Ee.symm) rh ak
    ·refine ⟨(by show 1<=sizeLine;decide),λl nl=>?_⟩;exact q _ l (aD.but (aD.new nl)) (by rw [rW hv];exact bm ha (aG ha nl)) nl ak
   ·refine Nd e0 ?_;have put: ¬(cr kvs k=none/\40<=kvs.length)->∀l,(upd H a (.dT (putK kvs k (.int m)))) l=none->Q (.ref l) (upd (upd H a (.dT (putK kvs k (.int m)))) l (.lst [.int 0])):=λfZ l nl=>by
     have ea:kD kvs k m=(putK kvs k (.int m),0):=by unfold kD;rw [if_neg e0,if_neg fZ]
     rw [ea] at q;obtain ⟨rh,Ee⟩:=iT ha nl;exact q _ l (dB.upd.trans (aD.but (aD.new nl))) (bm ak Ee.symm) rh ak
    refine ⟨_,rfl,_,rfl,a,_,rfl,j0.t (k:=k) ha hb,_,rfl,?_⟩;cases ev:cr kvs k with
    |some v=>
     refine tF ?_;refine ⟨_,rfl,_,rfl,_,rfl,a,_,rfl,nX.t (k:=k) ha hb (by omega),?_⟩;exact ⟨(by show 1<=sizeLine;decide),λl nl=>put (λz=>by rw [ev] at z;cases z.1) l nl⟩
    |none=>
     refine oT ?_;refine ⟨_,rfl,a,_,rfl,ha,_,_,rfl,rfl,_,rfl,?_⟩;by_cases e1:40<=kvs.length
     ·refine dT (by omega) ?_;have ea:kD kvs k m=(kvs, -8):=by unfold kD;rw [if_neg e0,if_pos ⟨ev,e1⟩]
      rw [ea] at q;exact ⟨(by show 1<=sizeLine;decide),λl nl=>q _ l (aD.but (aD.new nl)) (bm ha (aG ha nl)) nl ak⟩
     ·refine dF (by omega) ?_;refine ⟨_,rfl,_,rfl,_,rfl,a,_,rfl,nX.t (k:=k) ha hb (by omega),?_⟩;exact ⟨(by show 1<=sizeLine;decide),λl nl=>put (λz=>e1 z.2) l nl⟩
end
end Lf
namespace Lf
open Vbahaf (Call step inRange FLOORS TAXES withFloor withTax isFloor)
def Mg (x:Int×Int×Int):List Key×V:=([az x.1,az x.2.1],V.int x.2.2)
def Mf (x:Int×Int):Key×V:=(az x.1,V.int x.2)
theorem aZ.uU {K:aa} {H H':Hp} {h:HA} {s:ag} {fl:List aq} (x:aZ K H h s fl) {kvs:List (List Key×V)} {os:List (Int×Int×Int)} (ok:kE {s with floors:=os}) (hp:kvs.Perm (os.map Mg)) (b:dB h.o H H') (hv:H' h.o=some (.dT kvs)):aZ K H' h {s with floors:=os} fl:=by
 obtain ⟨kt0,hf,_⟩:=x.floors;have o:wM H h.p h.o:=Kx hf;obtain ⟨UZ,hc,perm,⟨jv,i1,i2⟩,⟨gH,f1,f2,f3⟩,⟨kt,t1,t2⟩,⟨ko,o1,o2⟩,⟨kx,x1,x2⟩,p,n1,n2⟩:=x;exact ⟨ok,hc,perm,⟨jv,b _ _ (i8 i1 hf rfl) i1,o.jm (z:=h.z) (jv:=jv) b i2⟩,⟨gH,b _ _ (i8 f1 hf rfl) f1,f2.mono λ_ _ z=>o.fare b z,f3.mono λ_ _ z=>o.HG b z⟩,⟨kt,b _ _ n2 t1,t2⟩,⟨kvs,hv,hp⟩,⟨kx,b _ _ (i8 x1 hf rfl) x1,x2⟩,b _ _ (i8 p hf rfl) p,n1,n2⟩
theorem aZ.xM {K:aa} {H H':Hp} {h:HA} {s:ag} {fl:List aq} (x:aZ K H h s fl) {kvs:List (Key×V)} {ts:List (Int×Int)} (ok:kE {s with taxes:=ts}) (hp:kvs.Perm (ts.map Mf)) (b:dB h.x H H') (hv:H' h.x=some (.dK kvs)):aZ K H' h {s with taxes:=ts} fl:=by
 obtain ⟨kt0,hf,_⟩:=x.taxes;have o:wM H h.p h.x:=Ky hf;obtain ⟨UZ,hc,perm,⟨jv,i1,i2⟩,⟨gH,f1,f2,f3⟩,⟨kt,t1,t2⟩,⟨ko,o1,o2⟩,⟨kx,x1,x2⟩,p,n1,n2⟩:=x;exact ⟨ok,hc,perm,⟨jv,b _ _ (i8 i1 hf rfl) i1,o.jm (z:=h.z) (jv:=jv) b i2⟩,⟨gH,b _ _ n1 f1,f2.mono λ_ _ z=>o.fare b z,f3.mono λ_ _ z=>o.HG b z⟩,⟨kt,b _ _ (i8 t1 hf rfl) t1,t2⟩,⟨ko,b _ _ (i8 o1 hf rfl) o1,o2⟩,⟨kvs,hv,hp⟩,b _ _ (i8 p hf rfl) p,n1,n2⟩
theorem Cv {κ α:Type} [DecidableEq κ] {kvs:List (κ×V)} {l new:List α} {enc:α->κ×V} {k:κ} {m:Int} {one:α} {off:α->Bool} (hp:kvs.Perm (l.map enc)) (nd:(kvs.map (·.1)).Nodup) (h1:enc one=(k, .int m)) (h2: ∀x,off x=decide ((enc x).1≠k)) (hn:new.Perm ((if m=0 then [] else [one])++l.filter off)) (hm: ¬(m≠0/\cr kvs k=none/\40<=kvs.length)):
  (kD kvs k m).1.Perm (new.map enc)/\(kD kvs k m).2=0:=by
 have hd:(gO kvs k).Perm ((l.filter off).map enc):=by
  unfold gO;refine (hp.filter _).trans ?_;rw [ib];refine Jq _ (i0 (iy λx _=>?_));exact (h2 x).symm
 unfold kD;by_cases e:m=0
 ·rw [if_pos e];rw [if_pos e] at hn;exact ⟨hd.trans (hn.map enc).symm,rfl⟩
 ·rw [if_neg e,if_neg (λz=>hm ⟨e,z⟩)];rw [if_neg e] at hn;refine ⟨(Ki nd).trans (iZ ?_ (hn.map enc).symm),rfl⟩;show ((k,V.int m)::gO kvs k).Perm (enc one::(l.filter off).map enc);rw [h1];exact hd.cons _
theorem any_none {κ α:Type} [DecidableEq κ] {kvs:List (κ×V)} {l:List α} {enc:α->κ×V} {k:κ} {is:α->Bool} (hp:kvs.Perm (l.map enc)) (h2: ∀x,is x=decide ((enc x).1=k)):l.any is=(cr kvs k).isSome:=by
 rw [<-fL,bC,gL,gL];constructor
 ·rintro ⟨x,hx,e⟩;rw [h2] at e;exact ⟨enc x,hp.mem_iff.mpr (aj.mpr ⟨x,hx,rfl⟩),e⟩
 ·rintro ⟨y,hy,e⟩;obtain ⟨x,hx,rfl⟩:=aj.mp (hp.mem_iff.mp hy);exact ⟨x,hx,by rw [h2];exact e⟩
theorem aZ.LZ {K:aa} {H:Hp} {h:HA} {s:ag} {fl:List aq} (x:aZ K H h s fl) {kvs:List (List Key×V)} (h2:kvs.Perm (s.floors.map Mg)):(kvs.map (·.1)).Nodup:=by
 refine (h2.map _).nodup_iff.mpr ?_;rw [bi];have:=gk (f:=λy:Int×Int=>([az y.1,az y.2]:List Key)) (λa b e=>by
  obtain ⟨a1,a2⟩:=a;obtain ⟨b1,b2⟩:=b;simp only [eJ,kH,and_true] at e;rw [e.1,e.2]) x.ok.os
 rw [bi] at this;exact this
theorem aZ.Ny {K:aa} {H:Hp} {h:HA} {s:ag} {fl:List aq} (x:aZ K H h s fl) {kvs:List (Key×V)} (h2:kvs.Perm (s.taxes.map Mf)):(kvs.map (·.1)).Nodup:=by
 refine (h2.map _).nodup_iff.mpr ?_;rw [bi];have:=gk (f:=λy:Int=>(az y:Key)) (λa b e=>cU e) x.ok.ts;rw [bi] at this;exact this
section
theorem Hl:ba ["house","numbers","row"] ["house","numbers","row"] (aM (top 22)):=fi
theorem IA (D:Dn K mg "put_floor" (top 22) ["house","numbers","row"]) (c:Cs mg) (G:Fn P w K mg base "put_amount" 1 ["amounts","name","amount"] JT):Fn P w K mg base "put_floor" 2 ["house","numbers","row"] (dL K zu):=by
 refine D.go Hl λf db A outer s H vs Q E hr h=>?_
 ·intro Xc;obtain ⟨h,s,fl,ln,lw,ns,rw,cl,rfl,hh,hn,hw,⟨a,b,m,rfl,rfl⟩,iF,BW,q⟩:=h;have vo:=j4 hh.ok iF;refine ⟨_,(am (cE (cB fV (bf aY (pv 1) aF (λ_ _=>rfl)) (bf aY (pv 1) aF (λ_ _=>rfl)) (bS _))
    (aA (aX (bJ (ae (kj c.sk) ax))))
    bI)
   (aA (aX (pc G hr (ae (aT (pv 0) rfl) (ae (fB (ae (bf aY (pv 1) aF (λ_ _=>rfl)) (ae (bf aY (pv 1) aF (λ_ _=>rfl)) ax))) (ae (bf aY (pv 1) aF (λ_ _=>rfl)) ax))))))),?_⟩
  refine ⟨_,rfl,ln,_,0,_,rfl,rfl, .of hn,at_of (j:=0) rfl rfl,_,rfl,ln,_,1,_,rfl,rfl, .of hn,at_of (j:=1) rfl rfl,rfl,_,rfl,?_⟩;by_cases e1:a=b
  ·refine eqT e1 ?_;have es:step s (.floor a b m)=(s,[-6]):=if_pos e1;rw [es] at q;exact ⟨(by show 1<=sizeLine;decide),λl nl=>q _ l fl (xn (aD.new nl)) nl ak (hh.mono (aD.new nl))⟩
  ·refine Nd e1 ?_;refine ⟨_,rfl,aL hh.Gc ⟨_,rfl,ln,_,0,_,rfl,rfl, .of hn,at_of (j:=0) rfl rfl,_,rfl,ln,_,1,_,rfl,rfl, .of hn,at_of (j:=1) rfl rfl,(by show 2<=sizeLine;decide),λtp Za=>?_⟩⟩;have s1:aD H (upd H tp (.tup [.int a, .int b])):=aD.new Za;have oU:=hh.mono s1;obtain ⟨kvs,ho,hp⟩:=oU.floors;have hp:kvs.Perm (s.floors.map Mg):=hp;have nd:=oU.LZ hp;have hl:kvs.length=s.floors.length:=by rw [hp.length_eq,ab]
   have Li:s.floors.any (isFloor a b)=(cr kvs [az a,az b]).isSome:=any_none hp λx=>by
    unfold isFloor Mg;rw [bC];simp
   refine ⟨_,rfl,ln,_,2,_,rfl,rfl, .of (s1 _ _ hn),at_of (j:=2) rfl rfl, .inr ⟨h.o,tp,kvs,[az a,az b],m,rfl,ho,ak,by rw [hl];exact hh.ok.ol,λH2 l b2 hv nl Dq=>?_⟩⟩;have fr:Frame h H H2:=(xn s1).trans (dB.frame b2 (by unfold HA.foot;simp));have Qk:step s (.floor a b m)=if (s.floors.any (isFloor a b))=false/\m≠0/\FLOORS<=s.floors.length then (s,[-8]) else ({s with floors:=withFloor s.floors a b m},[0]):=if_neg e1
   by_cases e2:(s.floors.any (isFloor a b))=false/\m≠0/\FLOORS<=s.floors.length
   ·have es:step s (.floor a b m)=(s,[-8]):=by rw [Qk,if_pos e2]
    rw [es] at q;have ev:cr kvs [az a,az b]=none:=by
     have:=e2.1;rw [Li] at this;simpa using this
    have ea:kD kvs [az a,az b] m=(kvs, -8):=by
     unfold kD;rw [if_neg e2.2.1,if_pos ⟨ev,by rw [hl];exact e2.2.2⟩]
    rw [ea] at hv Dq;exact q H2 l fl fr (s1.free nl) Dq (oU.uU (os:=s.floors) hh.ok hp b2 hv)
   ·have es:step s (.floor a b m)=({s with floors:=withFloor s.floors a b m},[0]):=by rw [Qk,if_neg e2]
    rw [es] at q vo;obtain ⟨g1,g2⟩:=Cv (m:=m) (one:=(a,b,m)) (off:=λx=>!isFloor a b x) (new:=withFloor s.floors a b m) (k:= [az a,az b]) hp nd rfl (λx=>by
     unfold isFloor Mg;rw [bC];simp) (mX s.floors a b m) (λz=>e2 ⟨by rw [Li,z.2.1];rfl,z.1,by rw [<-hl];exact z.2.2⟩)
    rw [g2] at Dq;exact q H2 l fl fr (s1.free nl) Dq (oU.uU vo g1 b2 hv)
theorem NN:ba ["house","numbers","row"] ["house","numbers","row"] (aM (top 23)):=fi
theorem OM (D:Dn K mg "put_tax" (top 23) ["house","numbers","row"]) (G:Fn P w K mg base "put_amount" 1 ["amounts","name","amount"] JT):Fn P w K mg base "put_tax" 2 ["house","numbers","row"] (dL K KA):=by
 refine D.go NN λf db A outer s H vs Q E hr h=>?_
 ·intro Xc;obtain ⟨h,s,fl,ln,lw,ns,rw,cl,rfl,hh,hn,hw,⟨a,m,rfl,rfl⟩,iF,BW,q⟩:=h;have vo:=j4 hh.ok iF;obtain ⟨kvs,ho,hp⟩:=hh.taxes;have hp:kvs.Perm (s.taxes.map Mf):=hp;have nd:=hh.Ny hp;have hl:kvs.length=s.taxes.length:=by rw [hp.length_eq,ab]
  have Li:(s.taxes.any λx=>decide (x.1=a))=(cr kvs (az a)).isSome:=any_none hp λx=>by
   unfold Mf;rw [decide_eq_decide];exact ⟨λe=>by rw [e],λe=>cU e⟩
  refine ⟨_,(aA (aX (pc G hr (ae (aT (pv 0) rfl) (ae (bf aY (pv 1) aF (λ_ _=>rfl)) (ae (bf aY (pv 1) aF (λ_ _=>rfl)) ax)))))),?_⟩;refine ⟨_,rfl,aL hh.Ma ⟨_,rfl,ln,_,0,_,rfl,rfl, .of hn,at_of (j:=0) rfl rfl,_,rfl,ln,_,1,_,rfl,rfl, .of hn,at_of (j:=1) rfl rfl, .inl ⟨h.x,kvs,az a,m,rfl,ho,by rw [hl];exact hh.ok.tl,λH2 l b2 hv nl Dq=>?_⟩⟩⟩;have fr:Frame h H H2:=dB.frame b2 (by unfold HA.foot;simp);have Qk:step s (.tax a m)=if (s.taxes.any λx=>decide (x.1=a))=false/\m≠0/\TAXES<=s.taxes.length then (s,[-8]) else ({s with taxes:=withTax s.taxes a m},[0]):=rfl
  by_cases e2:(s.taxes.any λx=>decide (x.1=a))=false/\m≠0/\TAXES<=s.taxes.length
  ·have es:step s (.tax a m)=(s,[-8]):=by rw [Qk,if_pos e2]
   rw [es] at q;have ev:cr kvs (az a)=none:=by
    have:=e2.1;rw [Li] at this;simpa using this
   have ea:kD kvs (az a) m=(kvs, -8):=by
    unfold kD;rw [if_neg e2.2.1,if_pos ⟨ev,by rw [hl];exact e2.2.2⟩]
   rw [ea] at hv Dq;exact q H2 l fl fr nl Dq (hh.xM (ts:=s.taxes) hh.ok hp b2 hv)
  ·have es:step s (.tax a m)=({s with taxes:=withTax s.taxes a m},[0]):=by rw [Qk,if_neg e2]
   rw [es] at q vo;obtain ⟨g1,g2⟩:=Cv (m:=m) (one:=(a,m)) (off:=λx=>decide (x.1≠a)) (new:=withTax s.taxes a m) (k:=az a) hp nd rfl (λx=>by
    unfold Mf;rw [decide_eq_decide];exact ⟨λz e=>z (cU e),λz e=>z (by rw [e])⟩) (qf s.taxes a m) (λz=>e2 ⟨by rw [Li,z.2.1];rfl,z.1,by rw [<-hl];exact z.2.2⟩)
   rw [g2] at Dq;exact q H2 l fl fr nl Dq (hh.xM vo g1 b2 hv)
def D9 (ns rw:List Int) (c:Call):Prop:= ∃k p,c= .percent k p/\ns= [k,p]
def D7 (ns rw:List Int) (c:Call):Prop:= ∃u,c= .unit u/\ns= [u]
theorem JW:ba ["house","numbers","row"] ["house","numbers","row"] (aM (top 24)):=fi
theorem LI (D:Dn K mg "put_percent" (top 24) ["house","numbers","row"]):Fn P w K mg base "put_percent" 1 ["house","numbers","row"] (dL K D9):=by
 refine D.go JW λf db A outer s H vs Q E hr h=>?_
 ·intro Xc;obtain ⟨h,s,fl,ln,lw,ns,rw,cl,rfl,hh,hn,hw,⟨k,p,rfl,rfl⟩,iF,BW,q⟩:=h;have vo:=j4 hh.ok iF;have hk:0<=k/\k<=4:=by
   have:(pW k&&cA 0 200 p)=true:=iF;unfold pW at this;simp only [aU,cM] at this;exact this.1
  have hpl:=hh.ok.pl;refine ⟨_,(am (Rc (bf aY (pv 1) aF (λ_ _=>rfl)) (Re (aT (pv 0) rfl) (bf aY (pv 1) aF (λ_ _=>rfl)) set_list))
   (aA (aX (bJ (ae aF ax))))),?_⟩
  refine ⟨_,rfl,ln,_,1,_,rfl,rfl, .of hn,at_of (j:=1) rfl rfl,_,rfl,aL hh.yo ⟨_,rfl,ln,_,0,_,rfl,rfl, .of hn,at_of (j:=0) rfl rfl,h.p,_,k,k.toNat,rfl,rfl,hh.percents,?_,?_⟩⟩
  ·unfold Jh;rw [if_pos hk.1,if_pos (by rw [ab,hpl];omega)]
  ·have es:step s (.percent k p)=({s with percents:=s.percents.set k.toNat p},[0]):=rfl;rw [es] at q vo;have H2:=hh.AX vo;rw [show (s.percents.map V.int).set k.toNat (.int p)=(s.percents.set k.toNat p).map V.int by rw [List.map_set]];refine ⟨(by show 1<=sizeLine;decide),λl nl=>?_⟩;obtain ⟨rh,_⟩:=iT hh.percents nl;exact q _ l _ ((dB.frame dB.upd (by unfold HA.foot;simp)).trans (xn (aD.new nl))) rh ak (H2.mono (aD.new nl))
theorem JV:ba ["house","numbers","row"] ["house","numbers","row"] (aM (top 25)):=fi
theorem LH (D:Dn K mg "put_unit" (top 25) ["house","numbers","row"]):Fn P w K mg base "put_unit" 1 ["house","numbers","row"] (dL K D7):=by
 refine D.go JV λf db A outer s H vs Q E hr h=>?_
 ·intro Xc;obtain ⟨h,s,fl,ln,lw,ns,rw,cl,rfl,hh,hn,hw,⟨u,rfl,rfl⟩,iF,BW,q⟩:=h;have vo:=j4 hh.ok iF;obtain ⟨jv,i1,i2⟩:=hh.inst;refine ⟨_,(am (bW (pv 0) (bf aY (pv 1) aF (λ_ _=>rfl)) rfl)
   (aA (aX (bJ (ae aF ax))))),?_⟩
  refine ⟨_,rfl,ln,_,0,_,rfl,rfl, .of hn,at_of (j:=0) rfl rfl,_,rfl,h.a,h.C,h.dx,_,rfl,i1,hh.hc.cl,hh.hc.n6,(by show 7<1000;decide),?_⟩;have es:step s (.unit u)=({s with unit:=u},[0]):=rfl;rw [es] at q vo;have H2:=hh.Fw (u:=u) (jv:=jv) (oj:=s.journey) vo i2;refine ⟨(by show 1<=sizeLine;decide),λl nl=>?_⟩;obtain ⟨rh,_⟩:=iT i1 nl;exact q _ l _ ((dB.frame dB.upd (by unfold HA.foot;simp)).trans (xn (aD.new nl))) rh ak (H2.mono (aD.new nl))
end
end Lf
namespace Lf
open Vbahaf (Call step inRange segsOf joins dayOf)
def jJ:Int->Int->List bT->Bool
 |_,_,[]=>true
 |day,at_,g::r=>(decide (g.src≠g.dst)&&(decide (g.src=at_)&&decide (day<=g.day)))&&jJ g.day g.dst r
theorem qI: ∀(r:List bT) (g:bT) (day:Int),jJ day g.src (g::r)=(joins (g::r)&&decide (day<=g.day))
 | [],g,day=>by
  show ((decide (g.src≠g.dst)&&(decide (g.src=g.src)&&decide (day<=g.day)))&&true)=(decide (g.src≠g.dst)&&decide (day<=g.day))
  rw [decide_eq_true rfl,Bool.and_true,eC]
 |b::r,a,day=>by
  show ((decide (a.src≠a.dst)&&(decide (a.src=a.src)&&decide (day<=a.day)))&&((decide (b.src≠b.dst)&&(decide (b.src=a.dst)&&decide (a.day<=b.day)))&&jJ b.day b.dst r))=((decide (a.src≠a.dst)&&(decide (a.dst=b.src)&&(decide (a.day<=b.day)&&joins (b::r))))&&decide (day<=a.day))
  have ih:=qI r b a.day;by_cases e:b.src=a.dst
  ·have ih':((decide (b.src≠b.dst)&&(decide (b.src=b.src)&&decide (a.day<=b.day)))&&jJ b.day b.dst r)=(joins (b::r)&&decide (a.day<=b.day)):=ih;rw [decide_eq_true (rfl:b.src=b.src)] at ih';rw [decide_eq_true e,decide_eq_true e.symm,ih',decide_eq_true (rfl:a.src=a.src)];cases decide (a.src≠a.dst)<;>cases decide (day<=a.day)<;>cases decide (a.day<=b.day)<;>cases joins (b::r)<;>rfl
  ·rw [decide_eq_false e,decide_eq_false (λz:a.dst=b.src=>e z.symm)];cases decide (a.src≠a.dst)<;>cases decide (day<=a.day)<;>simp
theorem Hq {n:Int} {gs:List bT} {g:bT} (h:gs[0]?=some g):jJ n g.src gs=!(decide (joins gs=false∨dayOf gs<n)):=by
 cases gs with
 |nil=>cases h
 |cons a r=>
  cases h;rw [qI];show (joins (g::r)&&decide (n<=g.day))=!(decide (joins (g::r)=false∨g.day<n));rw [bC];simp
inductive CM (K:aa) (vs:List V) (H:Hp) (Q:VK):Prop
 |mk (n:Int) (l:Addr) (as:List Addr) (gs:List bT) (g:bT):vs= [.int n, .ref l]->H l=some (.lst (as.map V.ref))->bQ (jf K H) as gs->gs[0]?=some g->Q (.bl (jJ n g.src gs)) H->CM K vs H Q
def Fm (K:aa):Sp:=λvs H Q _=>CM K vs H Q
def Ea (ns rw:List Int) (c:Call):Prop:= ∃n,c= .journey n rw/\ns= [n]
theorem rg5 {n:Nat} (h:n<=60) (h5:n%5=0):RgC 0 (n:Int) 5 (n/5):=by
 have key: ∀n:Nat,n<61->n%5=0->Builtin.Range.small 0 (n:Int) 5=true/\Builtin.Range.rangeSize 0 (n:Int) 5=((n/5:Nat):Int):=by decide+kernel
 obtain ⟨a,b⟩:=key n (by omega) h5;exact ⟨by decide,by decide,a,b⟩
theorem AZ: ∀{rw:List Int} {k:Nat} {g:bT},(segsOf rw)[k]?=some g->5*k+5<=rw.length/\(rw.drop (5*k)).take 5=fz g
 | [],k,x,h=>by simp [segsOf] at h
 | [_],k,x,h=>by simp [segsOf] at h
 | [_,_],k,x,h=>by simp [segsOf] at h
 | [_,_,_],k,x,h=>by simp [segsOf] at h
 | [_,_,_,_],k,x,h=>by simp [segsOf] at h
 |a::b::c::d::e::r,0,x,h=>by
  have h:({carrier:=a,src:=b,dst:=c,day:=d,cls:=e}:bT)=x:=by simpa [segsOf] using h
  subst h;exact ⟨by simp,rfl⟩
 |a::b::c::d::e::r,k+1,x,h=>by
  have h:(segsOf r)[k]?=some x:=by simpa [segsOf] using h
  obtain ⟨h1,h2⟩:=AZ h;refine ⟨by simp only [aS];omega,?_⟩;rw [show 5*(k+1)=5*k+5 by omega];exact h2
section
theorem kP:ba ["now","segments","day","airport","segment"] ["now","segments"] (aM (top 26)):=fi
theorem LG (D:Dn K mg "is_right" (top 26) ["now","segments"]):Fn P w K mg base "is_right" 1 ["now","segments"] (Fm K):=by
 refine D.go kP λf db A outer s H vs Q E hr h=>?_
 ·intro Xc;obtain ⟨n,l,as,gs,g0,rfl,hl,hs,La,q⟩:=h;obtain ⟨a0,TB,S8⟩:=hs.get La;refine ⟨_,(am (st 2 kP.nd (pv 0))
   (am (st 3 kP.nd (aT (bf aY (pv 1) aF (λ_ _=>rfl)) rfl))
   (am (dk PassesOwn.never rfl (cC (pv 1)) (gn 4 kP.nd)
    (am (cE (Bd (cB fV (aT (pv 4) rfl) (aT (pv 4) rfl) (bS _)) (Bd (cB vj (aT (pv 4) rfl) (pv 3) (bS _)) (DZ (cB xX (aT (pv 4) rfl) (pv 2) (bS _))))).pt
    (aA (aX iu))
    bI)
   (am (st 2 kP.nd (aT (pv 4) rfl))
   (aA (st 3 kP.nd (aT (pv 4) rfl))))))
   (aA (aX iu))))),?_⟩
  refine mL ?_
  intros
  refine ⟨_,rfl,?_⟩;refine ⟨_,rfl,l,_,0,_,rfl,rfl, .of hl,at_of (j:=0) rfl (cg TB),aL S8.origin ?_⟩;refine ⟨_,rfl,l,rfl,⟨_, .of hl⟩,eQ (K:=K) (a:=l) (xs:=as.map V.ref) (λm σ H'=>H'=H/\∃(dy ap:Int) (v4:Option V),σ= [some (.int n),some (.ref l),some (.int dy),some (.int ap),v4]/\jJ n g0.src gs=jJ dy ap (gs.drop m)) ⟨rfl,n,g0.src,_,rfl,rfl⟩ (λm σ H' _ zz=>by rw [zz.1];exact .of hl) ?_ ?_⟩
  ·rintro _ _ _ m y σ H1 hy ⟨rfl,dy,ap,v4,rfl,P7⟩;obtain ⟨a,ha,rfl⟩:=b0 hy;obtain ⟨g,hg,sa⟩:=hs.get' ha;have hd:gs.drop m=g::gs.drop (m+1):=by
    obtain ⟨hm,e⟩:=aJ.mp hg;rw [gS hm,e]
   have OB:jJ n g0.src gs=((decide (g.src≠g.dst)&&(decide (g.src=ap)&&decide (dy<=g.day)))&&jJ g.day g.dst (gs.drop (m+1))):=by rw [P7,hd];rfl
   refine ⟨_,rfl,aL sa.origin ⟨_,rfl,aL sa.target ⟨rfl,_,rfl,?_⟩⟩⟩;by_cases e1:g.src=g.dst
   ·refine eqT e1 (oT ?_);exact cj q (by rw [OB,decide_eq_false (λz=>z e1)];rfl)
   ·refine Nd e1 ⟨_,rfl,aL sa.origin ⟨_,rfl,rfl,_,rfl,?_⟩⟩;by_cases e2:g.src=ap
    ·refine Td e2 ⟨_,rfl,aL sa.day ⟨_,rfl,_,_,rfl,rfl,_,rfl,?_⟩⟩;by_cases e3:g.day<dy
     ·refine dT e3 ?_;exact cj q (by rw [OB,decide_eq_false (by omega: ¬dy<=g.day),fw,fw];rfl)
     ·refine dF e3 ?_;refine ⟨_,rfl,aL sa.day ⟨_,rfl,aL sa.target ⟨rfl,g.day,g.dst,_,rfl,?_⟩⟩⟩;rw [OB,decide_eq_true e1,decide_eq_true e2,decide_eq_true (by omega:dy<=g.day)];rfl
    ·refine neT e2 (oT ?_);exact cj q (by rw [OB,decide_eq_false e2,pb,fw];rfl)
  ·rintro σ H1 ⟨rfl,dy,ap,v4,rfl,P7⟩;rw [ab,hs.1,Nj] at P7;exact cj q P7
theorem uZ:ba ["house","numbers","row","segments","at"] ["house","numbers","row"] (aM (top 27)):=fi
theorem LJ (D:Dn K mg "put_journey" (top 27) ["house","numbers","row"]) (b:Bl mg) (c:Cs mg) (G1:Cl P w K mg base "Segment" t.fW 1 ["self","numbers"] (Pz K t.fW)) (G2:Fn P w K mg base "is_right" 1 ["now","segments"] (Fm K)) (G3:Cl P w K mg base "Journey" t.Journey 1 ["self","now","segments"] (JR K t.Journey)):
  Fn P w K mg base "put_journey" 3 ["house","numbers","row"] (dL K Ea):=by
 refine D.go uZ λf db A outer s H vs Q E hr h=>?_
 ·intro Xc;obtain ⟨h,s,fl,ln,lw,ns,rw,cl,rfl,hh,hn,hw,⟨n,rfl,rfl⟩,iF,BW,q⟩:=h;have vo:=j4 hh.ok iF;have EA:5<=rw.length/\rw.length<=40/\rw.length%5=0:=by
   have:(rm n&&(decide (5<=rw.length)&&(decide (rw.length<=40)&&(decide (rw.length%5=0)&&(segsOf rw).all jx))))=true:=iF;simp only [aU,decide_eq_true_eq] at this;exact ⟨this.2.1,this.2.2.1,this.2.2.2.1⟩
  obtain ⟨h5,h40,hm5⟩:=EA;have ZK:=pD rw;refine ⟨_,(am (qy (i:=3) rfl uZ.nd rfl rfl (tY rfl rfl rfl rfl) (xV rfl b.range (ae aF (ae (iV b.len (pv 2)) (ae (kj c.mx) ax)))) (cT (own:= [("at",4)]) (by kernel_rfl))
    (λ_ _ _ _ _=>(gn 4 uZ.nd)) (λ_ _ _ _ _=>eY)
    (λ_ _ _ _ _=>(MX G1 hr (ae (WA K (pv 2) (iJ (pv 4)) (iJ (bX fD (pv 4) (kj c.mx)))) ax))))
   (am (cE (ii (eK (pc G2 hr (ae (bf aY (pv 1) aF (λ_ _=>rfl)) (ae (pv 3) ax)))))
    (aA (aX (bJ (ae (kj c.sk) ax))))
    bI)
   (am (bW (pv 0) (MX G3 hr (ae (bf aY (pv 1) aF (λ_ _=>rfl)) (ae (pv 3) ax))) rfl)
   (aA (aX (bJ (ae aF ax))))))),?_⟩
  refine mL ?_
  intros
  refine ⟨_,rfl,lw,_,rfl, .inl (.of hw),0,_,5,rw.length/5,rfl,by rw [ab];exact rg5 (by omega) hm5,λD hD=>Et (n:=rw.length/5) (λn H'=>aD H H'/\∃as:List Addr,H' D=some (.lst (as.map V.ref))/\bQ (jf K H') as ((segsOf rw).take n)/\bQ (λa g=> ∃l,l≠D/\H l=none/\gF K H' a "numbers" (.ref l)/\H' l=some (.lst ((fz g).map V.int))) as ((segsOf rw).take n)) ⟨aD.new hD,[],ak,bQ.nil,bQ.nil⟩ (λi H' hi _=>hi) (λH' _=>ay _) ?_ ?_⟩
  ·rintro _ _ _ _ m H1 y QG hm ⟨s1,as,hp,gE,Oz⟩ ⟨rfl,rfl⟩;obtain ⟨g,hg⟩: ∃g,(segsOf rw)[m]?=some g:=⟨_,ao (by rw [ZK];exact hm)⟩
   obtain ⟨g1,g2⟩:=AZ hg;refine ⟨rfl,_,rfl,_,rfl,_,rfl,_,rfl,_,_,rfl,rfl,_,rfl,lw,_,rfl, .of (s1 _ _ hw),λp np=>?_⟩;rw [oJ (i:=5*m) (e:=5*m+5) (by omega) (by omega) (by omega) (by omega),show 5*m+5-5*m=5 by omega,g2];have s2:aD QG (upd QG p (.lst ((fz g).map V.int))):=aD.new np;refine λx dx nx tD Rp=>⟨x,dx,p,fz g,rfl,ak,dQ nx tD _ _ ak,rfl,λH2 b2 sat Sd=>⟨rfl,?_⟩⟩
   have s3:aD (upd QG p (.lst ((fz g).map V.int))) H2:=dB.same (dQ nx tD) nx b2;have MV:=s2.trans s3;have Ib:=MV _ _ hp;have Te:D≠p:=aG hp np;have ho: ∀C dx fs,HO.lst (as.map V.ref)≠ .ins C dx fs:=oH;have up:dB D H2 (upd H2 D (.lst (as.map V.ref++ [.ref x]))):=dB.upd;refine ⟨as.map V.ref,Ib,?_,aD.put (s1.trans MV) hD,as++ [x],by rw [ak,dP],?_,?_⟩
   ·rw [ab,gE.1,bc];have:sizeLine=16777216:=af5;omega
   ·rw [di hg];exact (gE.mono λ_ _ z=>(z.mono MV).but Ib ho up).snoc (sat.but Ib ho up)
   ·rw [di hg];refine (Oz.mono λ_ _ z=>?_).snoc ⟨p,Te.symm,s1.free np,Sd.but Ib ho up,bm (s3 _ _ ak) Te.symm⟩;obtain ⟨l',z1,z2,z3,z4⟩:=z;exact ⟨l',z1,z2,(z3.mono MV).but Ib ho up,bm (MV _ _ z4) z1⟩
  ·rintro H1 ⟨s1,as,hp,gE,Oz⟩;rw [ck (by rw [ZK];exact ay _)] at gE Oz;have oU:=hh.mono s1;have K6:=s1 _ _ hn;obtain ⟨g0,La⟩: ∃g,(segsOf rw)[0]?=some g:=⟨_,ao (by rw [ZK];omega)⟩
   have eR:=Hq (n:=n) La;refine ⟨_,rfl,ln,_,0,_,rfl,rfl, .of K6,at_of (j:=0) rfl rfl,_,rfl,n,D,as,segsOf rw,g0,rfl,hp,gE,La,_,rfl,?_⟩;have Qk:step s (.journey n rw)=if joins (segsOf rw)=false∨dayOf (segsOf rw)<n then (s,[-6]) else ({s with journey:=some {now:=n,segs:=segsOf rw}},[0]):=rfl
   refine BR (c:=jJ n g0.src (segsOf rw)) (λe=>?_) (λe=>?_)
   ·have e1:joins (segsOf rw)=false∨dayOf (segsOf rw)<n:=by
     rw [eR] at e;exact of_decide_eq_true (ie _▸e)
    have es:step s (.journey n rw)=(s,[-6]):=by rw [Qk,if_pos e1]
    rw [es] at q;exact ⟨(by show 1<=sizeLine;decide),λl nl=>q _ l fl (xn (s1.trans (aD.new nl))) (s1.free nl) ak (oU.mono (aD.new nl))⟩
   ·have e1: ¬(joins (segsOf rw)=false∨dayOf (segsOf rw)<n):=by
     rw [eR] at e;exact of_decide_eq_false (eW _▸e)
    have es:step s (.journey n rw)=({s with journey:=some {now:=n,segs:=segsOf rw}},[0]):=by rw [Qk,if_neg e1]
    rw [es] at q vo;refine ⟨_,rfl,ln,_,0,_,rfl,rfl, .of K6,at_of (j:=0) rfl rfl,_,rfl,λx dx nx tD Rp=>⟨x,dx,D,n,rfl,ak,λH2 b2 f1 f2=>⟨rfl,?_⟩⟩⟩;have s2:aD H1 H2:=dB.same (dQ nx tD) nx b2;have Tt:=oU.mono s2;obtain ⟨jv,i1,i2⟩:=Tt.inst;have np: ∀l',H l'=none->l'∉h.bn:=λl' z e=>by
     obtain ⟨o',Do⟩:=BW.2;rcases aB.mp e with e|e
     ·rw [e,hh.percents] at z;cases z
     ·rw [aR.mp e,Do] at z;cases z
    have hJ:md K H2 h.bn x {now:=n,segs:=segsOf rw}:=by
     refine ⟨f1,D,as,np D hD,f2,s2 _ _ hp,gE.mono λ_ _ z=>z.mono s2,Oz.mono λ_ _ z=>?_⟩;obtain ⟨l',z1,z2,z3,z4⟩:=z;exact ⟨l',np l' z2,z3.mono s2,s2 _ _ z4⟩
    refine ⟨_,rfl,h.a,h.C,h.dx,_,rfl,i1,hh.hc.cl,hh.hc.n7,(by show 7<1000;decide),?_⟩;have H3:=Tt.Fw (u:=s.unit) (jv:= .ref x) (oj:=some {now:=n,segs:=segsOf rw}) vo ⟨x,rfl,hJ⟩;refine ⟨(by show 1<=sizeLine;decide),λl nl=>?_⟩;obtain ⟨rh,_⟩:=iT i1 nl;exact q _ l _ (((xn (s1.trans s2)).trans (dB.frame dB.upd (by unfold HA.foot;simp))).trans (xn (aD.new nl))) ((s1.trans s2).free rh) ak (H3.mono (aD.new nl))
end
end Lf
namespace Lf
def DB (r:List (Int×Int)) (i:Nat) (x:Int):Bool:=decide ((r.getD (i%r.length) (0,0)).1<=x)&&decide (x<=(r.getD (i%r.length) (0,0)).2)
def inR (r:List (Int×Int)) (ns:List Int):Bool:=(bv ns.length).all λi=>DB r i (ns.getD i 0)
inductive Qy (K:aa) (vs:List V) (H:Hp) (Q:VK):Prop
 |mk (ln:Addr) (ns:List Int) (v:V) (r:List (Int×Int)):vs= [.ref ln,v]->H ln=some (.lst (ns.map V.int))->yy K v r->(ns= []∨r≠ [])->r.length<=100->ns.length<=1000->(∀H',aD H H'->Q (.bl (inR r ns)) H')->Qy K vs H Q
def Q2 (K:aa):Sp:=λvs H Q _=>Qy K vs H Q
section
theorem Fy:ba ["numbers","ranges","at","number","bounds"] ["numbers","ranges"] (aM (top 33)):=fi
theorem Wr (D:Dn K mg "are_within" (top 33) ["numbers","ranges"]) (b:Bl mg):Fn P w K mg base "are_within" 1 ["numbers","ranges"] (Q2 K):=by
 refine D.go Fy λf db A outer s H vs Q E hr h=>?_
 ·intro Xc;obtain ⟨ln,ns,v,r,rfl,hn,⟨a,ps,rfl,hk,gE⟩,fZ,Wg,vP,q⟩:=h;refine ⟨_,(am (dk PassesOwn.never rfl (FH rfl b.enumerate (ae (pv 0) ax)) (km rfl (cF (gn 2 Fy.nd) (cF (gn 3 Fy.nd) gX)))
    (am (st 4 Fy.nd (bf cI (pv 1) (bX D4 (pv 2) (iV b.len (pv 1))) (λ_ _=>rfl)))
   (aA (cE (Bd (cB xX (pv 3) (bf cI (pv 4) aF (λ_ _=>rfl)) (bS _)) (DZ (cB BA (pv 3) (bf cI (pv 4) aF (λ_ _=>rfl)) (bS _)))).pt
    (aA (aX iu))
    bI))))
   (aA (aX iu))),?_⟩
  refine ⟨_,rfl,ln,_,rfl, .of hn,l5 (n:=ns.length) (λm σ H'=>(∃v2 v3 v4,σ= [some (.ref ln),some (.ref a),v2,v3,v4])/\aD H H'/\((bv m).all λi=>DB r i (ns.getD i 0))=true)
   ⟨⟨_,_,_,rfl⟩,aD.refl H,rfl⟩ (λm σ H' hm zz=>?_) (λσ H' zz=>⟨_, .of (zz.2.1 _ _ hn),by rw [ab];exact ay _⟩) ?_ ?_⟩
  ·obtain ⟨x,hx⟩: ∃x,ns[m]?=some x:=⟨_,ao hm⟩
   exact ⟨_,_, .of (zz.2.1 _ _ hn),ik hx⟩
  ·rintro _ _ _ m σ H1 y QG hm ⟨⟨v2,v3,v4,rfl⟩,s1,cN⟩ ⟨T,z,rfl,hT,rfl,hz⟩;obtain ⟨x,hx,rfl⟩:=ints_get (hz _ (.of (s1 _ _ hn)));have Vq:ns.getD m 0=x:=by rw [bh,hx];rfl
   have s2:aD H1 (upd H1 T (.tup [.int (m:Nat), .int x])):=aD.new hT;have RR:0<r.length:=by
    rcases fZ with e|e
    ·rw [e] at hm;exact absurd hm (dZ _)
    ·exact jT.mpr e
   have ZZ:m%r.length<r.length:=Nat.mod_lt _ RR;obtain ⟨bd,hbd⟩: ∃bd,r[m%r.length]?=some bd:=⟨_,ao ZZ⟩
   obtain ⟨p,hp,kp⟩:=gE.get hbd;have ebd:r.getD (m%r.length) (0,0)=bd:=by rw [bh,hbd];rfl
   have hlen:((ps.map V.ref).length:Int)=r.length:=by rw [ab,gE.1]
   have good:DB r m x=true->((bv (m+1)).all λi=>DB r i (ns.getD i 0))=true:=λe=>by rw [dW,ic,cN,gb,Vq,e];rfl
   have bad:DB r m x=false->inR r ns=false:=λe=>by
    unfold inR;rw [iA];exact ⟨m,bE.mpr hm,by rw [Vq,e];exact aI⟩
   refine ⟨T,_,rfl, .of ak,rfl,_,_,rfl,_,_,rfl,rfl,?_⟩;refine ⟨_,rfl,_,rfl,_,rfl,a,_,rfl, .inr hk.sq,_,_,rfl,rfl,?_,a,_,_,_,rfl,rfl,hk.sq,at_of (j:=m%r.length) ?_ (cg hp),?_⟩
   ·show (0:Int)<((ps.map V.ref).length:Nat);omega
   ·show (m:Int)%(((ps.map V.ref).length:Nat):Int)=_;rw [hlen];omega
   ·refine ⟨_,rfl,_,rfl,p,_,0,_,rfl,rfl,kp.sq,at_of (j:=0) rfl rfl,_,_,rfl,rfl,_,rfl,?_⟩;by_cases e1:x<bd.1
    ·refine dT e1 (oT ?_);exact cj (q _ (s1.trans s2)) (bad (by unfold DB;rw [ebd,decide_eq_false (by omega)];rfl))
    ·refine dF e1 ⟨_,rfl,_,rfl,p,_,1,_,rfl,rfl,kp.sq,at_of (j:=1) rfl rfl,_,_,rfl,rfl,_,rfl,?_⟩;by_cases e2:bd.2<x
     ·refine dT e2 ?_;exact cj (q _ (s1.trans s2)) (bad (by unfold DB;rw [ebd,decide_eq_false (by omega: ¬x<=bd.2),fw]))
     ·refine dF e2 ?_;exact ⟨⟨_,_,_,rfl⟩,s1.trans s2,good (by unfold DB;rw [ebd,decide_eq_true (by omega:bd.1<=x),decide_eq_true (by omega:x<=bd.2)];rfl)⟩
  ·rintro σ H1 ⟨⟨v2,v3,v4,rfl⟩,s1,cN⟩;exact cj (q _ s1) cN
inductive Qw (K:aa) (vs:List V) (H:Hp) (Q:VK):Prop
 |mk (lw:Addr) (rw:List Int) (lo hi:Int) (v:V) (r:List (Int×Int)):vs= [.ref lw, .int lo, .int hi,v]->H lw=some (.lst (rw.map V.int))->yy K v r->0<r.length->r.length<=100->rw.length<=1000->(∀H',aD H H'->Q (.bl (decide (lo<=rw.length)&&(decide ((rw.length:Int)<=hi)&&(decide (rw.length%r.length=0)&&inR r rw)))) H')->Qw K vs H Q
def Uv (K:aa):Sp:=λvs H Q _=>Qw K vs H Q
theorem UD:ba ["row","fewest","most","ranges"] ["row","fewest","most","ranges"] (aM (top 34)):=fi
theorem Wn (D:Dn K mg "is_row_right" (top 34) ["row","fewest","most","ranges"]) (b:Bl mg) (G:Fn P w K mg base "are_within" 1 ["numbers","ranges"] (Q2 K)):Fn P w K mg base "is_row_right" 2 ["row","fewest","most","ranges"] (Uv K):=by
 refine D.go UD λf db A outer s H vs Q E hr h=>?_
 ·intro Xc;obtain ⟨lw,rw,lo,hi,v,r,rfl,hw,hR,RR,Wg,vP,q⟩:=h;obtain ⟨a,ps,rfl,hk,gE⟩:=id hR;have q0:=q H (aD.refl H);have RV:((rw.map V.int).length:Int)=rw.length:=by rw [ab]
  have RW:((ps.map V.ref).length:Int)=r.length:=by rw [ab,gE.1]
  refine ⟨_,(am (cE (Bd (cB xX (iV b.len (pv 0)) (pv 1) (bS _)) (Bd (cB BA (iV b.len (pv 0)) (pv 2) (bS _)) (DZ (cB vj (bX D4 (iV b.len (pv 0)) (iV b.len (pv 3))) aF (bS _))))).pt
    (aA (aX iu))
    bI)
   (aA (aX (pc G hr (ae (pv 0) (ae (pv 3) ax)))))),?_⟩
  refine ⟨_,rfl,lw,_,rfl, .inl (.of hw),_,rfl,_,_,rfl,rfl,_,rfl,?_⟩;by_cases e1:(rw.length:Int)<lo
  ·refine dT (by rw [RV];exact e1) (oT ?_);exact cj q0 (by rw [decide_eq_false (by omega: ¬lo<=(rw.length:Int))];rfl)
  ·refine dF (by rw [RV];exact e1) ?_;refine ⟨_,rfl,lw,_,rfl, .inl (.of hw),_,rfl,_,_,rfl,rfl,_,rfl,?_⟩;by_cases e2:hi<(rw.length:Int)
   ·refine dT (by rw [RV];exact e2) (oT ?_);exact cj q0 (by rw [decide_eq_false (by omega: ¬(rw.length:Int)<=hi),pb,fw])
   ·refine dF (by rw [RV];exact e2) ?_;refine ⟨_,rfl,lw,_,rfl, .inl (.of hw),_,rfl,a,_,rfl, .inr hk.sq,_,_,rfl,rfl,?_,rfl,_,rfl,?_⟩
    ·show (0:Int)<((ps.map V.ref).length:Nat);omega
    ·have emod:(((rw.map V.int).length:Nat):Int)%(((ps.map V.ref).length:Nat):Int)=((rw.length%r.length:Nat):Int):=by rw [RV,RW];omega
     by_cases e3:rw.length%r.length=0
     ·refine Td (a:=(((rw.map V.int).length:Nat):Int)%(((ps.map V.ref).length:Nat):Int)) (by rw [emod,e3];rfl) ?_;rw [decide_eq_true (by omega:lo<=(rw.length:Int)),decide_eq_true (by omega:(rw.length:Int)<=hi),decide_eq_true e3] at q;exact ⟨_,rfl,_,rfl,lw,rw,_,r,rfl,hw,hR, .inr (λz=>by rw [z] at RR;exact absurd RR (dO _)),Wg,vP,λH' s'=>q H' s'⟩
     ·refine neT (a:=(((rw.map V.int).length:Nat):Int)%(((ps.map V.ref).length:Nat):Int)) (by rw [emod];omega) ?_;exact cj q0 (by rw [decide_eq_false e3,pb,fw,fw])
end
end Lf
namespace Lf
section
variable {X:Cx} {x:Str} {pos:Pos}
theorem N4 {a:Addr} (hm:X.mg x=some (.ref a)) (hg:Gl X x:=by rfl) (hd:(x==("__debug__" :Str))=false:=by decide):PE X (.Name x pos) (tC (.ref a)):=FJ hg hm rfl hd
end
def R7:Int×Int×List (Int×Int):=(5,40,[(0,675),(0,17575),(0,17575),(0,36524),(0,25)])
def R9:Int×Int×List (Int×Int):=(5,5,[(0,9)])
def R12:Int×Int×List (Int×Int):=(0,24,[(0,8),(0,999999999),(0,8)])
def formOf (p:Nat):Option (Int×Int×List (Int×Int)):=if p=7 then some R7 else if p=9 then some R9 else if p=12 then some R12 else none
def PL (f:Int×Int×List (Int×Int)) (rw:List Int):Bool:=decide (f.1<=rw.length)&&(decide ((rw.length:Int)<=f.2.1)&&(decide (rw.length%f.2.2.length=0)&&inR f.2.2 rw))
def wK (p:Nat) (ns rw:List Int):Bool:=inR (tL.getD p []) ns&&match formOf p with
 |none=>true
 |some f=>PL f rw
theorem Ca {p:Nat} {f:Int×Int×List (Int×Int)} (h:formOf p=some f):0<f.2.2.length/\f.2.2.length<=100:=by
 unfold formOf at h;by_cases h7:p=7
 ·rw [if_pos h7] at h;cases h;decide
 ·rw [if_neg h7] at h;by_cases h9:p=9
  ·rw [if_pos h9] at h;cases h;decide
  ·rw [if_neg h9] at h;by_cases Il:p=12
   ·rw [if_pos Il] at h;cases h;decide
   ·rw [if_neg Il] at h;cases h
structure SQ (P:afZ) (w:afW) (K:aa) (mg:Str->Option Value):Prop where
 nums: ∃(a:Addr) (ps:List Addr),mg "NUMBERS" =some (.ref a)/\wu K a (ps.map V.ref)/\bQ (λp x=>yy K (.ref p) x) ps tL
 rows: ∃(a:Addr) (kvs:List (Key×V)),mg "ROWS" =some (.ref a)/\KD P w K a kvs/\(∀p:Nat,formOf p=none->cr kvs (az (p:Int))=none)/\∀(p:Nat) (f:Int×Int×List (Int×Int)),formOf p=some f->∃v,cr kvs (az (p:Int))=some v/\C1 K v f
theorem Txt.tabs {P:afZ} {w:afW} {K:aa} {mg:Str->Option Value} {t:CA} (x:Txt P w K mg t):SQ P w K mg:=by
 constructor
 ·obtain ⟨a,h1,h2⟩:=x.Oh;obtain ⟨a',ps,e,h3,h4⟩:=HF h2;cases e;exact ⟨a,ps,h1,h3,h4⟩
 ·obtain ⟨a,v7,v9,AG,h1,h2,h3,h4,h5⟩:=x.rows;refine ⟨a,_,h1,h2,λp hp=>?_,λp f hp=>?_⟩
  ·unfold formOf at hp;by_cases h7:p=7
   ·rw [if_pos h7] at hp;cases hp
   rw [if_neg h7] at hp;by_cases h9:p=9
   ·rw [if_pos h9] at hp;cases hp
   rw [if_neg h9] at hp;by_cases Il:p=12
   ·rw [if_pos Il] at hp;cases hp
   refine su λy hy e=>?_;simp only [aB,gJ,or_false] at hy;rcases hy with rfl|rfl|rfl
   ·have:=cU e;omega
   ·have:=cU e;omega
   ·have:=cU e;omega
  ·unfold formOf at hp;by_cases h7:p=7
   ·rw [if_pos h7] at hp;cases hp;subst h7;exact ⟨v7,rfl,h3⟩
   rw [if_neg h7] at hp;by_cases h9:p=9
   ·rw [if_pos h9] at hp;cases hp;subst h9;exact ⟨v9,rfl,h4⟩
   rw [if_neg h9] at hp;by_cases Il:p=12
   ·rw [if_pos Il] at hp;cases hp;subst Il;exact ⟨AG,rfl,h5⟩
   ·rw [if_neg Il] at hp;cases hp
inductive ME (vs:List V) (H:Hp) (Q:VK):Prop
 |mk (p:Nat) (ln lw:Addr) (ns rw:List Int):vs= [.int p, .ref ln, .ref lw]->p<18->H ln=some (.lst (ns.map V.int))->H lw=some (.lst (rw.map V.int))->ns.length=(tL.getD p []).length->rw.length<=1000->(∀H',aD H H'->Q (.bl (wK p ns rw)) H')->ME vs H Q
def PD:Sp:=λvs H Q _=>ME vs H Q
section
theorem J1:ba ["place","numbers","row","form"] ["place","numbers","row"] (aM (top 35)):=fi
theorem Sk (D:Dn K mg "is_in_range" (top 35) ["place","numbers","row"]) (T:SQ P w K mg) (G1:Fn P w K mg base "are_within" 1 ["numbers","ranges"] (Q2 K)) (G2:Fn P w K mg base "is_row_right" 2 ["row","fewest","most","ranges"] (Uv K)):
  Fn P w K mg base "is_in_range" 3 ["place","numbers","row"] PD:=by
 refine D.go J1 λf db A outer s H vs Q E hr h=>?_
 ·intro Xc;obtain ⟨p,ln,lw,ns,rw,rfl,hp,hn,hw,hlen,vP,q⟩:=h;obtain ⟨an,ps,mn,kn,gE⟩:=T.nums;obtain ⟨ar,kvs,mr,kd,no,so⟩:=T.rows;have h18:tL.length=18:=rfl;obtain ⟨r,yh⟩: ∃r,tL[p]?=some r:=⟨_,ao (by rw [h18];exact hp)⟩
  obtain ⟨pa,ZS,hR⟩:=gE.get yh;have er:tL.getD p []=r:=by rw [bh,yh];rfl
  have VB:r.length<=100:=by
   have: ∀r∈tL,r.length<=100:=by decide
   exact this r (aH yh)
  rw [er] at hlen;have TH:wK p ns rw=(inR r ns&&match formOf p with
   |none=>true
   |some f=>PL f rw):=by unfold wK;rw [er]
  refine ⟨_,(am (cE (ii (eK (pc G1 hr (ae (pv 1) (ae (bf cI (N4 mn) (pv 0) (λ_ _=>rfl)) ax)))))
    (aA (aX iu))
    bI)
   (am (cE (fT (vg (pv 0) (N4 mr)))
    (aA (aX iu))
    bI)
   (am (st 3 J1.nd (Kr (N4 mr) (pv 0) (λ_ _=>rfl)))
   (aA (aX (pc G2 hr (ae (pv 2) (ae (bf cI (pv 3) aF (λ_ _=>rfl)) (ae (bf cI (pv 3) aF (λ_ _=>rfl)) (ae (bf cI (pv 3) aF (λ_ _=>rfl)) ax)))))))))),?_⟩
  refine mL ?_
  intros
  refine ⟨_,rfl,_,rfl,an,_,_,_,rfl,rfl,kn.sq,at_of (j:=p) rfl (cg ZS),ln,ns,_,r,rfl,hn,hR,?_,VB,by omega,λH1 s1=>⟨_,rfl,?_⟩⟩
  ·by_cases e:r= []
   ·left;rw [e] at hlen;exact bR hlen
   ·exact .inr e
  refine BR (λe1=>?_) (λe1=>?_)
  ·exact cj (q H1 s1) (by rw [TH,e1];rfl)
  rw [e1,eC] at TH;refine ⟨_,rfl,ar,kvs,az (p:Int),rfl,kd,rfl,_,rfl,?_⟩;cases ef:formOf p with
  |none=>
   rw [ef] at TH;rw [no p ef];refine oT ?_;exact cj (q H1 s1) TH
  |some fm=>
   rw [ef] at TH;obtain ⟨v,ev,a,rv,rfl,kf,hRf⟩:=so p fm ef;rw [ev];refine tF ?_;obtain ⟨g1,g2⟩:=Ca ef;refine ⟨_,rfl,ar,kvs,az (p:Int),_,rfl,kd,rfl,ev,?_⟩;refine ⟨_,rfl,_,rfl,a,_,0,_,rfl,rfl,kf.sq,at_of (j:=0) rfl rfl,_,rfl,a,_,1,_,rfl,rfl,kf.sq,at_of (j:=1) rfl rfl,_,rfl,a,_,2,_,rfl,rfl,kf.sq,at_of (j:=2) rfl rfl,lw,rw,_,_,_,fm.2.2,rfl,s1 _ _ hw,hRf,g1,g2,vP,λH2 s2=>?_⟩;exact cj (q H2 (s1.trans s2)) (by rw [TH];rfl)
end
end Lf
namespace Lf
open PyVbahaf (shape)
theorem Km {p:Int} {n k:Nat} (h:shape p=some (n,k)): ∃(q:Nat) (r:List (Int×Int)),p=(q:Int)/\q<18/\tL[q]?=some r/\r.length=n/\(k=0->formOf q=none)/\(k=1->∃f,formOf q=some f):=by
 rcases gw h with ⟨rfl,rfl,rfl⟩|⟨rfl,rfl,rfl⟩|⟨rfl,rfl,rfl⟩|⟨rfl,rfl,rfl⟩|⟨rfl,rfl,rfl⟩|⟨rfl,rfl,rfl⟩|⟨rfl,rfl,rfl⟩|⟨rfl,rfl,rfl⟩|⟨rfl,rfl,rfl⟩|⟨rfl,rfl,rfl⟩|⟨rfl,rfl,rfl⟩|⟨rfl,rfl,rfl⟩|⟨rfl,rfl,rfl⟩|⟨rfl,rfl,rfl⟩|⟨rfl,rfl,rfl⟩|⟨rfl,rfl,rfl⟩|⟨rfl,rfl,rfl⟩|⟨rfl,rfl,rfl⟩
 ·exact ⟨0,_,rfl,by decide,rfl,rfl,λ_=>rfl,λe=>absurd e (by decide)⟩
 ·exact ⟨1,_,rfl,by decide,rfl,rfl,λ_=>rfl,λe=>absurd e (by decide)⟩
 ·exact ⟨2,_,rfl,by decide,rfl,rfl,λ_=>rfl,λe=>absurd e (by decide)⟩
 ·exact ⟨3,_,rfl,by decide,rfl,rfl,λ_=>rfl,λe=>absurd e (by decide)⟩
 ·exact ⟨4,_,rfl,by decide,rfl,rfl,λ_=>rfl,λe=>absurd e (by decide)⟩
 ·exact ⟨5,_,rfl,by decide,rfl,rfl,λ_=>rfl,λe=>absurd e (by decide)⟩
 ·exact ⟨6,_,rfl,by decide,rfl,rfl,λ_=>rfl,λe=>absurd e (by decide)⟩
 ·exact ⟨7,_,rfl,by decide,rfl,rfl,λe=>absurd e (by decide),λ_=>⟨_,rfl⟩⟩
 ·exact ⟨8,_,rfl,by decide,rfl,rfl,λ_=>rfl,λe=>absurd e (by decide)⟩
 ·exact ⟨9,_,rfl,by decide,rfl,rfl,λe=>absurd e (by decide),λ_=>⟨_,rfl⟩⟩
 ·exact ⟨10,_,rfl,by decide,rfl,rfl,λ_=>rfl,λe=>absurd e (by decide)⟩
 ·exact ⟨11,_,rfl,by decide,rfl,rfl,λ_=>rfl,λe=>absurd e (by decide)⟩
 ·exact ⟨12,_,rfl,by decide,rfl,rfl,λe=>absurd e (by decide),λ_=>⟨_,rfl⟩⟩
 ·exact ⟨13,_,rfl,by decide,rfl,rfl,λ_=>rfl,λe=>absurd e (by decide)⟩
 ·exact ⟨14,_,rfl,by decide,rfl,rfl,λ_=>rfl,λe=>absurd e (by decide)⟩
 ·exact ⟨15,_,rfl,by decide,rfl,rfl,λ_=>rfl,λe=>absurd e (by decide)⟩
 ·exact ⟨16,_,rfl,by decide,rfl,rfl,λ_=>rfl,λe=>absurd e (by decide)⟩
 ·exact ⟨17,_,rfl,by decide,rfl,rfl,λ_=>rfl,λe=>absurd e (by decide)⟩
theorem uj {l xs ys:List Int} {b:Nat} (h:l.drop b=xs++ys) (hb:b<=l.length):l.drop (b+xs.length)=ys/\(l.drop b).take xs.length=xs/\b+xs.length<=l.length:=by
 refine ⟨?_,?_,?_⟩
 ·rw [<-List.drop_drop,h];simp
 ·rw [h];simp
 ·have:=congrArg wG h;rw [mJ,aK] at this;omega
inductive GE (K:aa) (vs:List V) (H:Hp) (Q:VK):Prop
 |mk (lc:Addr) (l:List Int) (b:Nat) (p:Int) (nums:List Int) (row:Option (List Int)) (rest:List Int):vs= [.ref lc, .int b]->iL K H lc (l.map V.int)->b<=l.length->mh (l.drop b) p nums row rest->(∀(H':Hp) (t ln lw:Addr) (e:Nat),aD H H'->H ln=none->H lw=none->H' t=some (.tup [.int p, .ref ln, .ref lw, .int e])->H' ln=some (.lst (nums.map V.int))->H' lw=some (.lst ((row.getD []).map V.int))->e<=l.length->l.drop e=rest->Q (.ref t) H')->GE K vs H Q
def JO (K:aa):Sp:=λvs H Q _=>GE K vs H Q
section
theorem ou:ba ["calls","begin","place","numbers_end","numbers","row_begin","row_end"] ["calls","begin"] (aM (top 32)):=fi
theorem OL (D:Dn K mg "read_call" (top 32) ["calls","begin"]) (b:Bl mg) (T:SQ P w K mg):Fn P w K mg base "read_call" 1 ["calls","begin"] (JO K):=by
 refine D.go ou λf db A outer s H vs Q E hr h=>?_
 ·intro Xc;obtain ⟨lc,l,bg,p,nums,row,rest,rfl,hl,hbl,hC,q⟩:=h;obtain ⟨an,ps,mn,kn,gE⟩:=T.nums;obtain ⟨ar,kvs,mr,kd,no,so⟩:=T.rows;obtain ⟨k,tail,ZL,hd,hk⟩: ∃(k:Nat) (tail:List Int),shape p=some (nums.length,k)/\l.drop bg=p::(nums++tail)/\((k=0/\row=none/\tail=rest)∨(k=1/\∃r,row=some r/\tail=(r.length:Int)::(r++rest))):=by
   generalize hg:l.drop bg=dl at hC;cases hC with
   |plain h1 h2=>exact ⟨0,_,by rw [h2];exact h1,rfl, .inl ⟨rfl,rfl,rfl⟩⟩
   |J8 h1 h2=>exact ⟨1,_,by rw [h2];exact h1,rfl, .inr ⟨rfl,_,rfl,rfl⟩⟩
  obtain ⟨pn,r,rfl,ad5,yh,hrl,P6,hk1⟩:=Km ZL;obtain ⟨pa,ZS,hR⟩:=gE.get yh;obtain ⟨pa',rf,e',kr,ZQ⟩:=hR;cases e';have XE:l.drop bg= [(pn:Int)] ++(nums++tail):=hd;obtain ⟨d1,_,d3⟩:=uj XE hbl;have d1:l.drop (bg+1)=nums++tail:=d1;have d3:bg+1<=l.length:=d3;obtain ⟨c1,c2,c3⟩:=uj d1 d3;have Wa:l[bg]?=some (pn:Int):=by
   have:=congrArg (λz:List Int=>z[0]?) hd;simp only [rq,oe] at this;rw [this];rfl
  have VW:(((rf.map V.ref).length:Nat):Int)=nums.length:=by rw [ab,ZQ.1,hrl]
  refine ⟨_,(am (st 2 ou.nd (bf aY (pv 0) (pv 1) (λ_ _=>rfl)))
   (am (st 3 ou.nd (bX fD (bX fD (pv 1) aF) (iV b.len (bf cI (N4 mn) (pv 2) (λ_ _=>rfl)))))
   (am (st 4 ou.nd (qz uc (pv 0) (iJ (bX fD (pv 1) aF)) (iJ (pv 3))))
   (am (cE (fT (vg (pv 2) (N4 mr)))
    (aA (aX (fB (ae (pv 2) (ae (pv 4) (ae (bJ ax) (ae (pv 3) ax)))))))
    bI)
   (am (st 5 ou.nd (bX fD (pv 3) aF))
   (am (st 6 ou.nd (bX fD (pv 5) (bf aY (pv 0) (pv 3) (λ_ _=>rfl))))
   (aA (aX (fB (ae (pv 2) (ae (pv 4) (ae (qz uc (pv 0) (iJ (pv 5)) (iJ (pv 6))) (ae (pv 6) ax))))))))))))),?_⟩
  refine Q3 ?_
  intros
  refine ⟨_,rfl,_,rfl,lc,_,_,_,rfl,rfl,hl,at_of (j:=bg) rfl (ik Wa),?_⟩;refine ⟨_,rfl,_,_,rfl,rfl,_,rfl,an,_,_,_,rfl,rfl,kn.sq,at_of (j:=pn) rfl (cg ZS),pa,_,rfl, .inr kr.sq,_,_,rfl,rfl,?_⟩;refine ⟨_,rfl,_,rfl,_,_,rfl,rfl,_,rfl,_,rfl,_,rfl,lc,_,rfl,hl,λln MY=>?_⟩;have Sx:((bg:Int)+1+(((rf.map V.ref).length:Nat):Int))=((bg+1+nums.length:Nat):Int):=by rw [VW];omega
  have aaE:rY (l.map V.int) (some ((bg:Int)+1)) (some ((bg:Int)+1+(((rf.map V.ref).length:Nat):Int)))=nums.map V.int:=by
   rw [oJ (i:=bg+1) (e:=bg+1+nums.length) (by omega) c3 (by omega) Sx,show bg+1+nums.length-(bg+1)=nums.length by omega,c2]
  have s1:aD H (upd H ln (.lst (rY (l.map V.int) (some ((bg:Int)+1)) (some ((bg:Int)+1+(((rf.map V.ref).length:Nat):Int)))))):=aD.new MY;have VT:(upd H ln (.lst (rY (l.map V.int) (some ((bg:Int)+1)) (some ((bg:Int)+1+(((rf.map V.ref).length:Nat):Int)))))) ln=some (.lst (nums.map V.int)):=by rw [ak,aaE]
  refine ⟨_,rfl,ar,kvs,az (pn:Int),rfl,kd,rfl,_,rfl,?_⟩;rcases hk with ⟨rfl,rfl,rfl⟩|⟨rfl,rr,rfl,rfl⟩
  ·rw [no pn (P6 rfl)];refine oT ?_;refine ⟨_,rfl,_,rfl,bw _,λlw FR=>⟨_,rfl,(by show 4<=sizeLine;decide),λtt S9=>?_⟩⟩;have s2:=aD.new (o:= .lst []) FR;have s3:=aD.new (o:= .tup [.int (pn:Int), .ref ln, .ref lw, .int ((bg:Int)+1+(((rf.map V.ref).length:Nat):Int))]) S9;exact q _ tt ln lw (bg+1+nums.length) ((s1.trans s2).trans s3) MY (s1.free FR) (by rw [<-Sx];exact ak) (s3 _ _ (s2 _ _ VT)) (s3 _ _ ak) c3 c1
  ·obtain ⟨fm,hfm⟩:=hk1 rfl;obtain ⟨v,ev,_⟩:=so pn fm hfm;rw [ev];refine tF ?_;have c1':l.drop (bg+1+nums.length)= [(rr.length:Int)] ++(rr++rest):=c1;obtain ⟨e1,_,e3⟩:=uj c1' c3;have e1:l.drop (bg+1+nums.length+1)=rr++rest:=e1;have e3:bg+1+nums.length+1<=l.length:=e3;obtain ⟨g1,g2,g3⟩:=uj e1 e3;have aao:l[bg+1+nums.length]?=some (rr.length:Int):=by
    have:=congrArg (λz:List Int=>z[0]?) c1';simp only [rq,oe] at this;rw [this];rfl
   refine ⟨_,rfl,_,_,rfl,rfl,?_⟩;refine ⟨_,rfl,_,rfl,_,rfl,lc,_,_,_,rfl,rfl,s1.seq hl,at_of (j:=bg+1+nums.length) Sx (ik aao),_,_,rfl,rfl,?_⟩;refine ⟨_,rfl,_,rfl,_,rfl,_,rfl,_,rfl,_,rfl,_,rfl,lc,_,rfl,s1.seq hl,λlw FR=>⟨_,rfl,(by show 4<=sizeLine;decide),λtt S9=>?_⟩⟩;have Wz:rY (l.map V.int) (some ((bg:Int)+1+(((rf.map V.ref).length:Nat):Int)+1)) (some ((bg:Int)+1+(((rf.map V.ref).length:Nat):Int)+1+(rr.length:Int)))=rr.map V.int:=by
    rw [oJ (i:=bg+1+nums.length+1) (e:=bg+1+nums.length+1+rr.length) (by omega) g3 (by omega) (by omega),show bg+1+nums.length+1+rr.length-(bg+1+nums.length+1)=rr.length by omega,g2]
   have s2:=aD.new (o:= .lst (rY (l.map V.int) (some ((bg:Int)+1+(((rf.map V.ref).length:Nat):Int)+1)) (some ((bg:Int)+1+(((rf.map V.ref).length:Nat):Int)+1+(rr.length:Int))))) FR;have s3:=aD.new (o:= .tup [.int (pn:Int), .ref ln, .ref lw, .int ((bg:Int)+1+(((rf.map V.ref).length:Nat):Int)+1+(rr.length:Int))]) S9;have ee:((bg:Int)+1+(((rf.map V.ref).length:Nat):Int)+1+(rr.length:Int))=((bg+1+nums.length+1+rr.length:Nat):Int):=by omega
   exact q _ tt ln lw (bg+1+nums.length+1+rr.length) ((s1.trans s2).trans s3) MY (s1.free FR) (by rw [<-ee];exact ak) (s3 _ _ (s2 _ _ VT)) (s3 _ _ (by rw [ak,Wz];rfl)) g3 g1
end
end Lf
namespace Lf
open Vbahaf (Call decode inRange fareNumbers within)
theorem qN: ∀(l:List Bool) (a:Bool),l.foldl and a=(and a (l.all id)&&true)
 | [],a=>by cases a<;>rfl
 |b::l,a=>by
  show l.foldl and (and a b)=_;rw [qN l (and a b)];cases a<;>rfl
theorem Mv: ∀(l:List Bool) (a:Bool),l.foldl and a=and a (l.all id)
 | [],a=>by cases a<;>rfl
 |b::l,a=>by
  show l.foldl and (and a b)=_;rw [Mv l (and a b)];cases a<;>rfl
theorem fF {ns:List Int} {n:Nat} (h:ns.length=n+1): ∃a r,ns=a::r/\r.length=n:=by
 cases ns with
 |nil=>cases h
 |cons a r=>exact ⟨a,r,rfl,yQ h⟩
theorem YU {ns:List Int} (h:ns.length=15): ∃f,ns=fareNumbers f/\decode (cx 0 ns none)=some (.fare f)/\inRange (.fare f)=wK 0 ns []:=by
 obtain ⟨k,_,rfl,z0⟩:=fF h;obtain ⟨c,_,rfl,z1⟩:=fF z0;obtain ⟨a,_,rfl,z2⟩:=fF z1;obtain ⟨b,_,rfl,z3⟩:=fF z2;obtain ⟨w,_,rfl,z4⟩:=fF z3;obtain ⟨m,_,rfl,z5⟩:=fF z4;obtain ⟨cl,_,rfl,z6⟩:=fF z5;obtain ⟨wd,_,rfl,z7⟩:=fF z6;obtain ⟨ah,_,rfl,z8⟩:=fF z7;obtain ⟨ls,_,rfl,z9⟩:=fF z8;obtain ⟨ms,_,rfl,z10⟩:=fF z9;obtain ⟨g,_,rfl,z11⟩:=fF z10;obtain ⟨o,_,rfl,z12⟩:=fF z11;obtain ⟨ki,_,rfl,z13⟩:=fF z12;obtain ⟨sg,_,rfl,z14⟩:=fF z13;cases bq.mp z14;exact ⟨⟨k,c,a,b,w,m,cl,wd,ah,ls,ms,g,o,ki,sg⟩,rfl,rfl,qN [_,_,_,_,_,_,_,_,_,_,_,_,_,_] _⟩
theorem YT {ns:List Int} (h':ns.length=1): ∃k:Int,ns= [k]/\decode (cx 1 ns none)=some (.unfare k)/\inRange (.unfare k)=wK 1 ns []:=by
 obtain ⟨k,_,rfl,z0⟩:=fF h';cases bq.mp z0;exact ⟨k,rfl,rfl,qN [] _⟩
theorem YS {ns:List Int} (h':ns.length=3): ∃g h y:Int,ns= [g,h,y]/\decode (cx 2 ns none)=some (.combine g h y)/\inRange (.combine g h y)=wK 2 ns []:=by
 obtain ⟨g,_,rfl,z0⟩:=fF h';obtain ⟨h,_,rfl,z1⟩:=fF z0;obtain ⟨y,_,rfl,z2⟩:=fF z1;cases bq.mp z2;exact ⟨g,h,y,rfl,rfl,qN [_,_] _⟩
theorem YR {ns:List Int} (h':ns.length=3): ∃a b m:Int,ns= [a,b,m]/\decode (cx 3 ns none)=some (.floor a b m)/\inRange (.floor a b m)=wK 3 ns []:=by
 obtain ⟨a,_,rfl,z0⟩:=fF h';obtain ⟨b,_,rfl,z1⟩:=fF z0;obtain ⟨m,_,rfl,z2⟩:=fF z1;cases bq.mp z2;exact ⟨a,b,m,rfl,rfl,qN [_,_] _⟩
theorem YQ {ns:List Int} (h':ns.length=2): ∃a m:Int,ns= [a,m]/\decode (cx 4 ns none)=some (.tax a m)/\inRange (.tax a m)=wK 4 ns []:=by
 obtain ⟨a,_,rfl,z0⟩:=fF h';obtain ⟨m,_,rfl,z1⟩:=fF z0;cases bq.mp z1;exact ⟨a,m,rfl,rfl,qN [_] _⟩
theorem YO {ns:List Int} (h':ns.length=2): ∃k p:Int,ns= [k,p]/\decode (cx 5 ns none)=some (.percent k p)/\inRange (.percent k p)=wK 5 ns []:=by
 obtain ⟨k,_,rfl,z0⟩:=fF h';obtain ⟨p,_,rfl,z1⟩:=fF z0;cases bq.mp z1;exact ⟨k,p,rfl,rfl,qN [_] _⟩
theorem YN {ns:List Int} (h':ns.length=1): ∃u:Int,ns= [u]/\decode (cx 6 ns none)=some (.unit u)/\inRange (.unit u)=wK 6 ns []:=by
 obtain ⟨u,_,rfl,z0⟩:=fF h';cases bq.mp z0;exact ⟨u,rfl,rfl,qN [] _⟩
theorem YL {ns:List Int} (h':ns.length=1): ∃k:Int,ns= [k]/\decode (cx 8 ns none)=some (.price k)/\inRange (.price k)=wK 8 ns []:=by
 obtain ⟨k,_,rfl,z0⟩:=fF h';cases bq.mp z0;exact ⟨k,rfl,rfl,qN [] _⟩
theorem UN {ns:List Int} (h':ns.length=3): ∃k i e:Int,ns= [k,i,e]/\decode (cx 10 ns none)=some (.singles k i e)/\inRange (.singles k i e)=wK 10 ns []:=by
 obtain ⟨k,_,rfl,z0⟩:=fF h';obtain ⟨i,_,rfl,z1⟩:=fF z0;obtain ⟨e,_,rfl,z2⟩:=fF z1;cases bq.mp z2;exact ⟨k,i,e,rfl,rfl,qN [_,_] _⟩
theorem UM {ns:List Int} (h':ns.length=5): ∃k i e p q:Int,ns= [k,i,e,p,q]/\decode (cx 11 ns none)=some (.pair k i e p q)/\inRange (.pair k i e p q)=wK 11 ns []:=by
 obtain ⟨k,_,rfl,z0⟩:=fF h';obtain ⟨i,_,rfl,z1⟩:=fF z0;obtain ⟨e,_,rfl,z2⟩:=fF z1;obtain ⟨p,_,rfl,z3⟩:=fF z2;obtain ⟨q,_,rfl,z4⟩:=fF z3;cases bq.mp z4;exact ⟨k,i,e,p,q,rfl,rfl,qN [_,_,_,_] _⟩
theorem UK {ns:List Int} (h':ns.length=1): ∃k:Int,ns= [k]/\decode (cx 13 ns none)=some (.alone k)/\inRange (.alone k)=wK 13 ns []:=by
 obtain ⟨k,_,rfl,z0⟩:=fF h';cases bq.mp z0;exact ⟨k,rfl,rfl,qN [] _⟩
theorem UJ {ns:List Int} (h':ns.length=1): ∃k:Int,ns= [k]/\decode (cx 14 ns none)=some (.count k)/\inRange (.count k)=wK 14 ns []:=by
 obtain ⟨k,_,rfl,z0⟩:=fF h';cases bq.mp z0;exact ⟨k,rfl,rfl,qN [] _⟩
theorem UI {ns:List Int} (h':ns.length=1): ∃k:Int,ns= [k]/\decode (cx 15 ns none)=some (.prefixes k)/\inRange (.prefixes k)=wK 15 ns []:=by
 obtain ⟨k,_,rfl,z0⟩:=fF h';cases bq.mp z0;exact ⟨k,rfl,rfl,qN [] _⟩
theorem UH {ns:List Int} (h':ns.length=0):ns= []/\decode (cx 16 ns none)=some (.fares)/\inRange (.fares)=wK 16 ns []:=by
 match ns,h' with
 | [],_=>exact ⟨rfl,rfl,rfl⟩
theorem UG {ns:List Int} (h':ns.length=0):ns= []/\decode (cx 17 ns none)=some (.told)/\inRange (.told)=wK 17 ns []:=by
 match ns,h' with
 | [],_=>exact ⟨rfl,rfl,rfl⟩
theorem gdL {xs ys:List Int} {i:Nat} (h:i<xs.length):(xs++ys).getD i 0=xs.getD i 0:=by
 rw [bh,bh,bV h]
theorem gdR {xs ys:List Int} (i:Nat):(xs++ys).getD (xs.length+i) 0=ys.getD i 0:=by
 rw [bh,bh,cy (dN _ _),Nat.add_sub_cancel_left]
theorem GV (r:List (Int×Int)) (i:Nat) (x:Int):DB r (r.length+i) x=DB r i x:=by
 unfold DB;rw [Nat.add_mod_left]
theorem pN {r:List (Int×Int)} {xs ys:List Int} (h:xs.length=r.length):inR r (xs++ys)=(inR r xs&&inR r ys):=by
 unfold inR;rw [aK,List.range_add,ic,mW]
 congr 1
 ·rw [bC,bP,bP];constructor
  ·intro z i hi;have:=z i hi;rw [gdL (bE.mp hi)] at this;exact this
  ·intro z i hi;rw [gdL (bE.mp hi)];exact z i hi
 ·rw [bC,bP,bP];have key: ∀i,DB r (xs.length+i) ((xs++ys).getD (xs.length+i) 0)=DB r i (ys.getD i 0):=λi=>by
   rw [gdR,h,GV]
  constructor
  ·intro z i hi;have:=z i hi;show DB r i (ys.getD i 0)=true;rw [<-key];exact this
  ·intro z i hi;show DB r (xs.length+i) ((xs++ys).getD (xs.length+i) 0)=true;rw [key];exact z i hi
theorem Vi: ∀l:List Int,inR [(0,9)] l=l.all (within 0 9)
 | []=>rfl
 |x::l=>by
  have:=pN (r:= [(0,9)]) (xs:= [x]) (ys:=l) rfl;rw [show x::l= [x] ++l from rfl,this,Vi l,ic]
  congr 1
theorem P0: ∀l:List Int,l.length%3=0->inR [(0,8),(0,999999999),(0,8)] l=(pV l).all λx=>within 0 8 x.1&&mG x.2.1&&within 0 8 x.2.2
 | [],_=>rfl
 | [_],h=>absurd h (by simp)
 | [_,_],h=>absurd h (by simp)
 |a::b::c::l,h=>by
  have:=pN (r:= [(0,8),(0,999999999),(0,8)]) (xs:= [a,b,c]) (ys:=l) rfl;rw [show a::b::c::l= [a,b,c] ++l from rfl,this,P0 l (by simp only [aS] at h;omega)];show _=((within 0 8 a&&mG b&&within 0 8 c)&&(pV l).all _)
  congr 1
  exact (Mv [_,_] _).symm
theorem Vj: ∀l:List Int,l.length%5=0->inR [(0,675),(0,17575),(0,17575),(0,36524),(0,25)] l=(yM l).all jx
 | [],_=>rfl
 | [_],h=>absurd h (by simp)
 | [_,_],h=>absurd h (by simp)
 | [_,_,_],h=>absurd h (by simp)
 | [_,_,_,_],h=>absurd h (by simp)
 |a::b::c::d::e::l,h=>by
  have:=pN (r:= [(0,675),(0,17575),(0,17575),(0,36524),(0,25)]) (xs:= [a,b,c,d,e]) (ys:=l) rfl;rw [show a::b::c::d::e::l= [a,b,c,d,e] ++l from rfl,this,Vj l (by simp only [aS] at h;omega)];show _=(jx {carrier:=a,src:=b,dst:=c,day:=d,cls:=e}&&(yM l).all jx)
  congr 1
  exact (Mv [_,_,_,_] _).symm
theorem YM {ns l:List Int} (h':ns.length=1): ∃n:Int,ns= [n]/\decode (cx 7 ns (some l))=some (.journey n l)/\inRange (.journey n l)=wK 7 ns l:=by
 match ns,h' with
 | [n],_=>
  refine ⟨n,rfl,rfl,?_⟩;show (rm n&&(decide (5<=l.length)&&(decide (l.length<=40)&&(decide (l.length%5=0)&&(yM l).all jx))))=(inR [(0,36524)] [n] &&(decide ((5:Int)<=l.length)&&(decide ((l.length:Int)<=40)&&(decide (l.length%5=0)&&inR [(0,675),(0,17575),(0,17575),(0,36524),(0,25)] l))))
  have e1:rm n=inR [(0,36524)] [n]:=Mv [] _;have e2:decide (5<=l.length)=decide ((5:Int)<=l.length):=by rw [decide_eq_decide];omega
  have e3:decide (l.length<=40)=decide ((l.length:Int)<=40):=by rw [decide_eq_decide];omega
  rw [e1,e2,e3];by_cases h5:l.length%5=0
  ·rw [Vj l h5]
  ·rw [decide_eq_false h5];simp
theorem YK {ns l:List Int} (h':ns.length=0):ns= []/\decode (cx 9 ns (some l))=some (.party l)/\inRange (.party l)=wK 9 ns l:=by
 match ns,h' with
 | [],_=>
  refine ⟨rfl,rfl,?_⟩;show (decide (l.length=5)&&l.all (within 0 9))=(decide ((5:Int)<=l.length)&&(decide ((l.length:Int)<=5)&&(decide (l.length%1=0)&&inR [(0,9)] l)))
  rw [Vi,Nat.mod_one,decide_eq_true rfl,eC];by_cases h5:l.length=5
  ·rw [decide_eq_true h5,decide_eq_true (by omega:(5:Int)<=l.length),decide_eq_true (by omega:(l.length:Int)<=5)];rfl
  ·rw [decide_eq_false h5];by_cases z:(5:Int)<=l.length
   ·rw [decide_eq_false (by omega: ¬(l.length:Int)<=5)];simp
   ·rw [decide_eq_false z];rfl
theorem UL {ns l:List Int} (h':ns.length=1): ∃k:Int,ns= [k]/\decode (cx 12 ns (some l))=some (.check k l)/\inRange (.check k l)=wK 12 ns l:=by
 match ns,h' with
 | [k],_=>
  refine ⟨k,rfl,rfl,?_⟩;show (pW k&&(decide (l.length<=24)&&(decide (l.length%3=0)&&(pV l).all λx=>within 0 8 x.1&&mG x.2.1&&within 0 8 x.2.2)))=(inR [(0,4)] [k] &&(decide ((0:Int)<=l.length)&&(decide ((l.length:Int)<=24)&&(decide (l.length%3=0)&&inR [(0,8),(0,999999999),(0,8)] l))))
  have e1:pW k=inR [(0,4)] [k]:=Mv [] _;have e3:decide (l.length<=24)=decide ((l.length:Int)<=24):=by rw [decide_eq_decide];omega
  rw [e1,e3,decide_eq_true (by omega:(0:Int)<=l.length),eC];by_cases h5:l.length%3=0
  ·rw [P0 l h5]
  ·rw [decide_eq_false h5];simp
end Lf
namespace Lf
open Vbahaf (Call decode inRange step stepRows withJourney)
open PyVbahaf (shape)
theorem y1 {s:ag} {rows:List (List Int)} {c:Call} (h:decode rows=some c):stepRows s rows=if inRange c=true then step s c else (s,[-2]):=by
 unfold stepRows;rw [h]
inductive Kd (ns rw:List Int) (c:Call):Nat->Prop
 |c0:Eb ns rw c->Kd ns rw c 0
 |c1:vn ns rw c->Kd ns rw c 1
 |c2:Ec ns rw c->Kd ns rw c 2
 |c3:zu ns rw c->Kd ns rw c 3
 |c4:KA ns rw c->Kd ns rw c 4
 |c5:D9 ns rw c->Kd ns rw c 5
 |c6:D7 ns rw c->Kd ns rw c 6
 |c7:Ea ns rw c->Kd ns rw c 7
 |c8 {k}:ns= [k]->c= .price k->Kd ns rw c 8
 |c9:c= .party rw->Kd ns rw c 9
 |c10 {k i e}:ns= [k,i,e]->c= .singles k i e->Kd ns rw c 10
 |c11 {k i e p q}:ns= [k,i,e,p,q]->c= .pair k i e p q->Kd ns rw c 11
 |c12 {k}:ns= [k]->c= .check k rw->Kd ns rw c 12
 |c13 {k}:ns= [k]->c= .alone k->Kd ns rw c 13
 |c14 {k}:ns= [k]->c= .count k->Kd ns rw c 14
 |c15 {k}:ns= [k]->c= .prefixes k->Kd ns rw c 15
 |c16:c= .fares->Kd ns rw c 16
 |c17:c= .told->Kd ns rw c 17
theorem O3 {p:Int} {ns:List Int} {row:Option (List Int)} (h:shape p=some (ns.length,if row.isSome=true then 1 else 0)): ∃(q:Nat) (c:Call),p=(q:Int)/\q<18/\ns.length=(tL.getD q []).length/\decode (cx p ns row)=some c/\inRange c=wK q ns (row.getD [])/\Kd ns (row.getD []) c q:=by
 cases row with
 |none=>
  rcases gw h with ⟨rfl,e,z⟩|⟨rfl,e,z⟩|⟨rfl,e,z⟩|⟨rfl,e,z⟩|⟨rfl,e,z⟩|⟨rfl,e,z⟩|⟨rfl,e,z⟩|⟨rfl,e,z⟩|⟨rfl,e,z⟩|⟨rfl,e,z⟩|⟨rfl,e,z⟩|⟨rfl,e,z⟩|⟨rfl,e,z⟩|⟨rfl,e,z⟩|⟨rfl,e,z⟩|⟨rfl,e,z⟩|⟨rfl,e,z⟩|⟨rfl,e,z⟩
  ·obtain ⟨f,a,b,c⟩:=YU e;exact ⟨0,_,rfl,by decide,e,b,c, .c0 ⟨f,rfl,a⟩⟩
  ·obtain ⟨k,a,b,c⟩:=YT e;exact ⟨1,_,rfl,by decide,e,b,c, .c1 ⟨k,rfl,a⟩⟩
  ·obtain ⟨g,g',y,a,b,c⟩:=YS e;exact ⟨2,_,rfl,by decide,e,b,c, .c2 ⟨g,g',y,rfl,a⟩⟩
  ·obtain ⟨g,g',y,a,b,c⟩:=YR e;exact ⟨3,_,rfl,by decide,e,b,c, .c3 ⟨g,g',y,rfl,a⟩⟩
  ·obtain ⟨g,g',a,b,c⟩:=YQ e;exact ⟨4,_,rfl,by decide,e,b,c, .c4 ⟨g,g',rfl,a⟩⟩
  ·obtain ⟨g,g',a,b,c⟩:=YO e;exact ⟨5,_,rfl,by decide,e,b,c, .c5 ⟨g,g',rfl,a⟩⟩
  ·obtain ⟨g,a,b,c⟩:=YN e;exact ⟨6,_,rfl,by decide,e,b,c, .c6 ⟨g,rfl,a⟩⟩
  ·cases z
  ·obtain ⟨g,a,b,c⟩:=YL e;exact ⟨8,_,rfl,by decide,e,b,c, .c8 a rfl⟩
  ·cases z
  ·obtain ⟨k,i,e',a,b,c⟩:=UN e;exact ⟨10,_,rfl,by decide,e,b,c, .c10 a rfl⟩
  ·obtain ⟨k,i,e',p,q,a,b,c⟩:=UM e;exact ⟨11,_,rfl,by decide,e,b,c, .c11 a rfl⟩
  ·cases z
  ·obtain ⟨g,a,b,c⟩:=UK e;exact ⟨13,_,rfl,by decide,e,b,c, .c13 a rfl⟩
  ·obtain ⟨g,a,b,c⟩:=UJ e;exact ⟨14,_,rfl,by decide,e,b,c, .c14 a rfl⟩
  ·obtain ⟨g,a,b,c⟩:=UI e;exact ⟨15,_,rfl,by decide,e,b,c, .c15 a rfl⟩
  ·obtain ⟨a,b,c⟩:=UH e;exact ⟨16,_,rfl,by decide,e,b,c, .c16 rfl⟩
  ·obtain ⟨a,b,c⟩:=UG e;exact ⟨17,_,rfl,by decide,e,b,c, .c17 rfl⟩
 |some l=>
  rcases gw h with ⟨rfl,e,z⟩|⟨rfl,e,z⟩|⟨rfl,e,z⟩|⟨rfl,e,z⟩|⟨rfl,e,z⟩|⟨rfl,e,z⟩|⟨rfl,e,z⟩|⟨rfl,e,z⟩|⟨rfl,e,z⟩|⟨rfl,e,z⟩|⟨rfl,e,z⟩|⟨rfl,e,z⟩|⟨rfl,e,z⟩|⟨rfl,e,z⟩|⟨rfl,e,z⟩|⟨rfl,e,z⟩|⟨rfl,e,z⟩|⟨rfl,e,z⟩
  ·cases z
  ·cases z
  ·cases z
  ·cases z
  ·cases z
  ·cases z
  ·cases z
  ·obtain ⟨n,a,b,c⟩:=YM (l:=l) e;exact ⟨7,_,rfl,by decide,e,b,c, .c7 ⟨n,rfl,a⟩⟩
  ·cases z
  ·obtain ⟨a,b,c⟩:=YK (l:=l) e;exact ⟨9,_,rfl,by decide,e,b,c, .c9 rfl⟩
  ·cases z
  ·cases z
  ·obtain ⟨n,a,b,c⟩:=UL (l:=l) e;exact ⟨12,_,rfl,by decide,e,b,c, .c12 a rfl⟩
  ·cases z
  ·cases z
  ·cases z
  ·cases z
  ·cases z
inductive yJ (K:aa) (vs:List V) (H:Hp) (Q:VK):Prop
 |mk (h:HA) (s:ag) (fl:List aq) (p:Int) (ns:List Int) (row:Option (List Int)) (ln lw:Addr):vs= [.ref h.a, .int p, .ref ln, .ref lw]->aZ K H h s fl->H ln=some (.lst (ns.map V.int))->H lw=some (.lst ((row.getD []).map V.int))->shape p=some (ns.length,if row.isSome=true then 1 else 0)->(row.getD []).length<=1000->(ln≠h.z/\∃o,H h.z=some o)->(∀(H':Hp) (l:Addr) (Sq:List aq),Frame h H H'->H l=none->H' l=some (.lst ((stepRows s (cx p ns row)).2.map V.int))->aZ K H' h (stepRows s (cx p ns row)).1 Sq->Q (.ref l) H')->yJ K vs H Q
def AU (K:aa):Sp:=λvs H Q _=>yJ K vs H Q
end Lf
namespace Lf
open Vbahaf (Call decode inRange step stepRows withJourney)
open PyVbahaf (shape)
structure As (P:afZ) (w:afW) (K:aa) (mg:Str->Option Value) (base:afV):Prop where
 a0:Fn P w K mg base "put_fare" 3 ["house","numbers","row"] (dL K Eb)
 a1:Fn P w K mg base "take_fare" 1 ["house","numbers","row"] (dL K vn)
 a2:Fn P w K mg base "put_combination" 1 ["house","numbers","row"] (dL K Ec)
 a3:Fn P w K mg base "put_floor" 2 ["house","numbers","row"] (dL K zu)
 a4:Fn P w K mg base "put_tax" 2 ["house","numbers","row"] (dL K KA)
 a5:Fn P w K mg base "put_percent" 1 ["house","numbers","row"] (dL K D9)
 a6:Fn P w K mg base "put_unit" 1 ["house","numbers","row"] (dL K D7)
 a7:Fn P w K mg base "put_journey" 3 ["house","numbers","row"] (dL K Ea)
 a8:Fn P w K mg base "tell_price" 10 ["house","numbers","row"] (fy K ng zN)
 a9:Fn P w K mg base "tell_party" 11 ["house","numbers","row"] (fy K FO rS)
 a10:Fn P w K mg base "tell_singles" 8 ["house","numbers","row"] (fy K KB yj)
 a11:Fn P w K mg base "tell_pair" 8 ["house","numbers","row"] (fy K KC yk)
 WJ:Fn P w K mg base "tell_check" 9 ["house","numbers","row"] (fy K FP Lo)
 a13:Fn P w K mg base "tell_alone" 9 ["house","numbers","row"] (fy K ng zO)
 a14:Fn P w K mg base "tell_count" 10 ["house","numbers","row"] (fy K ng Ln)
 a15:Fn P w K mg base "tell_prefixes" 10 ["house","numbers","row"] (fy K ng Qe)
 a16:Fn P w K mg base "tell_fares" 1 ["house","numbers","row"] (y4 K)
 a17:Fn P w K mg base "tell_journey" 2 ["house","numbers","row"] (fy K KF Qc)
theorem jk {s:ag} {f:ai->List Int} (h:s.journey=none):withJourney s f=(s,[-3]):=by unfold withJourney;rw [h]
theorem jj {s:ag} {f:ai->List Int} {j:ai} (h:s.journey=some j):withJourney s f=(s,f j):=by unfold withJourney;rw [h]
section
theorem fR {fs:List Addr} {ms:List (Option Value)} {i j:Nat} {x:Str} {ps:List Str} {sp:Sp} (h:fs.map (λf=>some (Value.ref f))=ms) (G:Fn P w K mg base x j ps sp) (hi:ms[i]?=some (mg x)) (hj:j<=11): ∃f,fs[i]?=some f/\TN P w K mg base 11 ps.length (.ref f) sp:=by
 obtain ⟨a,hm,v⟩:=G.v hj;rw [<-h,bp] at hi;cases e:fs[i]? with
 |none=>rw [e] at hi;cases hi
 |some f=>
  rw [e] at hi;have hi:some (Value.ref f)=mg x:=bx hi;rw [hm] at hi;cases hi;exact ⟨_,rfl,v⟩
inductive Hd (P:afZ) (w:afW) (K:aa) (mg:Str->Option Value) (base:afV) (fC fQ:List Addr) (s:ag) (ns rw:List Int) (cl:Call):Nat->Prop
 |ch {n:Nat} {ff:Addr} {ok:List Int->List Int->Call->Prop}:n<8->fC[n]?=some ff->TN P w K mg base 11 3 (.ref ff) (dL K ok)->ok ns rw cl->Hd P w K mg base fC fQ s ns rw cl n
 |qu {i:Nat} {ff:Addr} {ok:List Int->List Int->Prop} {g:ag->ai->List Int->List Int->List Int}:i≠8->fQ[i]?=some ff->TN P w K mg base 11 3 (.ref ff) (fy K ok g)->ok ns rw->(s.journey=none->step s cl=(s,[-3]))->(∀j,s.journey=some j->step s cl=(s,g s j ns rw))->Hd P w K mg base fC fQ s ns rw cl (i+8)
 |fa {ff:Addr}:fQ[8]?=some ff->TN P w K mg base 11 3 (.ref ff) (y4 K)->cl= .fares->Hd P w K mg base fC fQ s ns rw cl 16
theorem V6 {fC fQ:List Addr} {n:Nat} {s:ag} {ns rw:List Int} {cl:Call} (tC:fC.map (λf=>some (Value.ref f))= [mg "put_fare",mg "take_fare",mg "put_combination",mg "put_floor",mg "put_tax",mg "put_percent",mg "put_unit",mg "put_journey"])
  (tQ:fQ.map (λf=>some (Value.ref f))= [mg "tell_price",mg "tell_party",mg "tell_singles",mg "tell_pair",mg "tell_check",mg "tell_alone",mg "tell_count",mg "tell_prefixes",mg "tell_fares",mg "tell_journey"]) (A:As P w K mg base) (kd:Kd ns rw cl n) (iF:inRange cl=true):Hd P w K mg base fC fQ s ns rw cl n:=by
 cases kd with
 |c0 ok=>obtain ⟨_,a,b⟩:=fR (i:=0) tC A.a0 rfl (by decide);exact .ch (by decide) a b ok
 |c1 ok=>obtain ⟨_,a,b⟩:=fR (i:=1) tC A.a1 rfl (by decide);exact .ch (by decide) a b ok
 |c2 ok=>obtain ⟨_,a,b⟩:=fR (i:=2) tC A.a2 rfl (by decide);exact .ch (by decide) a b ok
 |c3 ok=>obtain ⟨_,a,b⟩:=fR (i:=3) tC A.a3 rfl (by decide);exact .ch (by decide) a b ok
 |c4 ok=>obtain ⟨_,a,b⟩:=fR (i:=4) tC A.a4 rfl (by decide);exact .ch (by decide) a b ok
 |c5 ok=>obtain ⟨_,a,b⟩:=fR (i:=5) tC A.a5 rfl (by decide);exact .ch (by decide) a b ok
 |c6 ok=>obtain ⟨_,a,b⟩:=fR (i:=6) tC A.a6 rfl (by decide);exact .ch (by decide) a b ok
 |c7 ok=>obtain ⟨_,a,b⟩:=fR (i:=7) tC A.a7 rfl (by decide);exact .ch (by decide) a b ok
 | @c8 k hk hc=>subst hk hc;obtain ⟨_,a,b⟩:=fR (i:=0) tQ A.a8 rfl (by decide);exact .qu (i:=0) (by decide) a b ⟨k,rfl,cM.mp iF⟩ jk λ_=>jj
 |c9 hc=>
  subst hc;obtain ⟨_,a,b⟩:=fR (i:=1) tQ A.a9 rfl (by decide);refine .qu (i:=1) (by decide) a b ?_ jk λ_=>jj;have iF:(decide (rw.length=5)&&rw.all (cA 0 9))=true:=iF;rw [aU,decide_eq_true_eq,bP] at iF;exact ⟨iF.1,λx hx=>cM.mp (iF.2 x hx)⟩
 | @c10 k i e hk hc=>
  subst hk hc;obtain ⟨_,a,b⟩:=fR (i:=2) tQ A.a10 rfl (by decide);refine .qu (i:=2) (by decide) a b ?_ jk λ_=>jj;have iF:(cA 0 4 k&&cA 1 8 i&&cA 1 8 e)=true:=iF;simp only [aU,cM] at iF;exact ⟨k,i,e,rfl,iF.1.1,iF.1.2.1,iF.2.1⟩
 | @c11 k i e p p' hk hc=>
  subst hk hc;obtain ⟨_,a,b⟩:=fR (i:=3) tQ A.a11 rfl (by decide);refine .qu (i:=3) (by decide) a b ?_ jk λ_=>jj;have iF:(cA 0 4 k&&cA 1 8 i&&cA 1 8 e&&cA 1 8 p&&cA 1 8 p')=true:=iF;simp only [aU,cM] at iF;exact ⟨k,i,e,p,p',rfl,iF.1.1.1.1,iF.1.1.1.2.1,iF.1.1.2.1,iF.1.2.1,iF.2.1⟩
 | @c12 k hk hc=>
  subst hk hc;obtain ⟨_,a,b⟩:=fR (i:=4) tQ A.WJ rfl (by decide);refine .qu (i:=4) (by decide) a b ?_ jk λ_=>jj;have iF:(cA 0 4 k&&(decide (rw.length<=24)&&(decide (rw.length%3=0)&&(pV rw).all λx=>cA 0 8 x.1&&mG x.2.1&&cA 0 8 x.2.2)))=true:=iF;rw [aU,aU,aU,cM,decide_eq_true_eq,decide_eq_true_eq,bP] at iF;exact ⟨k,rfl,iF.1,iF.2.1,iF.2.2.1,λx hx=>by
   have:=iF.2.2.2 x hx;rw [aU] at this;exact (cM.mp this.2).1⟩
 | @c13 k hk hc=>subst hk hc;obtain ⟨_,a,b⟩:=fR (i:=5) tQ A.a13 rfl (by decide);exact .qu (i:=5) (by decide) a b ⟨k,rfl,cM.mp iF⟩ jk λ_=>jj
 | @c14 k hk hc=>subst hk hc;obtain ⟨_,a,b⟩:=fR (i:=6) tQ A.a14 rfl (by decide);exact .qu (i:=6) (by decide) a b ⟨k,rfl,cM.mp iF⟩ jk λ_=>jj
 | @c15 k hk hc=>subst hk hc;obtain ⟨_,a,b⟩:=fR (i:=7) tQ A.a15 rfl (by decide);exact .qu (i:=7) (by decide) a b ⟨k,rfl,cM.mp iF⟩ jk λ_=>jj
 |c16 hc=>obtain ⟨_,a,b⟩:=fR (i:=8) tQ A.a16 rfl (by decide);exact .fa a b hc
 |c17 hc=>subst hc;obtain ⟨_,a,b⟩:=fR (i:=9) tQ A.a17 rfl (by decide);exact .qu (i:=9) (by decide) a b trivial jk λ_=>jj
theorem Hn:ba ["house","place","numbers","row"] ["house","place","numbers","row"] (aM (top 123)):=fi
theorem IC (D:Dn K mg "answer" (top 123) ["house","place","numbers","row"]) (b:Bl mg) (c:Cs mg) (TC:sj K mg) (TQ:nN K mg) (G:Fn P w K mg base "is_in_range" 3 ["place","numbers","row"] PD) (A:As P w K mg base):
  Fn P w K mg base "answer" 12 ["house","place","numbers","row"] (AU K):=by
 refine D.go Hn λf db A' outer s H vs Q E hr h=>?_
 ·intro Xc;obtain ⟨h,s,fl,p,ns,row,ln,lw,rfl,hh,hn,hw,ZL,vP,BW,q⟩:=h;obtain ⟨n,cl,rfl,ZY,hnl,aag,hir,kd⟩:=O3 ZL;obtain ⟨aC,fC,mC,kC,tC'⟩:=TC.tab;obtain ⟨aQ,fQ,mQ,kQ,tQ'⟩:=TQ.tab;have hlC:(((fC.map V.ref).length:Nat):Int)=8:=by
   have:=congrArg wG tC';rw [ab] at this;rw [ab,this];rfl
  rw [y1 aag] at q;refine ⟨_,(am (cE (ii (eK (pc G hr (ae (pv 1) (ae (pv 2) (ae (pv 3) ax))))))
    (aA (aX (bJ (ae (kj c.Al) ax))))
    bI)
   (am (cE (cB xX (pv 1) (iV b.len (N4 mC)) (bS _))
    (aA (aX (pcv (k:=11) (n:=3) (hr.mono (by decide)) (bf cI (N4 mC) (pv 1) (λ_ _=>rfl)) (ae (pv 0) (ae (pv 2) (ae (pv 3) ax))))))
    bI)
   (am (cE (pG (fT (jE (aT (pv 0) rfl))) (lQ (cB vj (pv 1) (kj c.C8) (bS _)))).pt
    (aA (aX (bJ (ae (kj c.EZ) ax))))
    bI)
   (aA (aX (pcv (k:=11) (n:=3) (hr.mono (by decide)) (bf cI (N4 mQ) (bX fU (pv 1) (iV b.len (N4 mC))) (λ_ _=>rfl)) (ae (pv 0) (ae (pv 2) (ae (pv 3) ax))))))))),?_⟩
  refine mL ?_
  intros
  refine ⟨_,rfl,_,rfl,_,rfl,n,ln,lw,ns,_,rfl,ZY,hn,hw,hnl,vP,λH1 s1=>⟨_,rfl,?_⟩⟩;have oU:=hh.mono s1;have K6:=s1 _ _ hn;have Th:=s1 _ _ hw;refine BR (λe1=>?_) (λe1=>?_)
  ·rw [if_neg (by rw [hir,e1];exact aI)] at q;exact ⟨(by show 1<=sizeLine;decide),λl nl=>q _ l fl (xn (s1.trans (aD.new nl))) (s1.free nl) ak (oU.mono (aD.new nl))⟩
  have iF:inRange cl=true:=by rw [hir,e1]
  rw [if_pos iF] at q;generalize hrw:row.getD []=rw at hw Th kd vP;refine ⟨_,rfl,aC,_,rfl, .inr kC.sq,_,_,rfl,rfl,_,rfl,?_⟩;cases V6 (s:=s) tC' tQ' A kd iF with
  | @ch _ ff ok h8 Tu hv Y6=>
   refine dT (by omega) ?_;exact ⟨_,rfl,aC,_,_,_,rfl,rfl,kC.sq,at_of (j:=n) rfl (cg Tu),_,hv,_,rfl,_,rfl,_,rfl,h,s,fl,ln,lw,ns,rw,cl,rfl,oU,K6,Th,Y6,iF,⟨BW.1,BW.2.imp λo e=>s1 _ _ e⟩,λH' l Sq fr nl hl hH=>q H' l Sq ((xn s1).trans fr) (s1.free nl) hl hH⟩
  | @qu i ff ok g h8 Tu hv Y6 ea eb=>
   refine dF (by omega) ?_;cases ej:s.journey with
   |none=>
    rw [ea ej] at q;refine ⟨_,rfl,aL (oU.vU ej) ⟨_,rfl,_,rfl,rfl,_,rfl,?_⟩⟩;refine neT (by omega) ?_;exact ⟨(by show 1<=sizeLine;decide),λl nl=>q _ l fl (xn (s1.trans (aD.new nl))) (s1.free nl) ak (oU.mono (aD.new nl))⟩
   |some j=>
    obtain ⟨ja,fj,_⟩:=oU.il ej;rw [eb j ej] at q;exact ⟨_,rfl,aL fj ⟨_,rfl,_,rfl,aC,_,rfl, .inr kC.sq,_,_,rfl,rfl,aQ,_,_,_,rfl,rfl,kQ.sq,at_of (j:=i) (by omega) (cg Tu),_,hv,_,rfl,_,rfl,_,rfl,h,s,fl,j,ln,lw,ns,rw,rfl,oU,ej,K6,Th,Y6,λH' l s' nl hl=>q H' l fl (xn (s1.trans s')) (s1.free nl) hl (oU.mono s')⟩⟩
  | @fa ff Tu hv hc=>
   subst hc;refine dF (by omega) ?_;cases ej:s.journey with
   |none=>
    refine ⟨_,rfl,aL (oU.vU ej) ⟨_,rfl,_,rfl,rfl,_,rfl,?_⟩⟩;refine Td rfl ?_;exact ⟨_,rfl,aC,_,rfl, .inr kC.sq,_,_,rfl,rfl,aQ,_,_,_,rfl,rfl,kQ.sq,at_of (j:=8) (by omega) (cg Tu),_,hv,_,rfl,_,rfl,_,rfl,h,s,fl,ln,lw,rfl,oU,λH' l s' nl hl=>q H' l fl (xn (s1.trans s')) (s1.free nl) hl (oU.mono s')⟩
   |some j=>
    obtain ⟨ja,fj,_⟩:=oU.il ej;exact ⟨_,rfl,aL fj ⟨_,rfl,_,rfl,aC,_,rfl, .inr kC.sq,_,_,rfl,rfl,aQ,_,_,_,rfl,rfl,kQ.sq,at_of (j:=8) (by omega) (cg Tu),_,hv,_,rfl,_,rfl,_,rfl,h,s,fl,ln,lw,rfl,oU,λH' l s' nl hl=>q H' l fl (xn (s1.trans s')) (s1.free nl) hl (oU.mono s')⟩⟩
end
end Lf
namespace Lf
open Vbahaf (Call decode inRange step stepRows withJourney price)
open PyVbahaf (shape)
theorem Hy {s:ag} {j:ai} {k:Int} {r:List Int} (h8:j.segs.length<=8) (h:price s j k=some r):r.length<=30:=by
 have C:=k8 s j k;cases e:iH s j k (ll j.segs.length) (2^j.segs.length-1) with
 |none=>
  have:=pI C h8 (ay _) e;rw [k5,h] at this;cases this
 |some r0=>
  obtain ⟨t,ht⟩:=vN (pz s j k) e;have hp:=pH C h8 (ay _) e ht;rw [k5,h] at hp;cases hp;obtain ⟨a,b,rfl⟩:=pk s j k _ _ _ e;have:=yV C h8 ht;rw [aK];show 2+t.length<=30;omega
theorem JG {s:ag} (ok:kE s) (c:Call):(step s c).2.length<=1000:=by
 have wj: ∀f:ai->List Int,(∀j,s.journey=some j->(f j).length<=1000)->(withJourney s f).2.length<=1000:=λf hf=>by
  unfold withJourney;cases e:s.journey with
  |none=>exact (by decide:1<=1000)
  |some j=>exact hf j e
 cases c with
 |fare f=>
  show (if _ then _ else if _ then _ else _:ag×List Int).2.length<=1000;split
  ·exact (by decide:1<=1000)
  ·split<;>exact (by decide:1<=1000)
 |unfare k=>
  show (if _ then _ else _:ag×List Int).2.length<=1000;split<;>exact (by decide:1<=1000)
 |combine g h y=>exact (by decide:1<=1000)
 |floor a b m=>
  show (if _ then _ else if _ then _ else _:ag×List Int).2.length<=1000;split
  ·exact (by decide:1<=1000)
  ·split<;>exact (by decide:1<=1000)
 |tax a m=>
  show (if _ then _ else _:ag×List Int).2.length<=1000;split<;>exact (by decide:1<=1000)
 |percent k p=>exact (by decide:1<=1000)
 |unit u=>exact (by decide:1<=1000)
 |journey n l=>
  show (if _ then _ else _:ag×List Int).2.length<=1000;split<;>exact (by decide:1<=1000)
 |price k=>
  refine wj _ λj hj=>?_;cases e:price s j k with
  |none=>simp [e]
  |some r=>
   have:=Hy (ok.jo j hj).ge e;simp [e];omega
 |party l=>
  refine wj _ λj hj=>?_;show (if _ then _ else _:List Int).length<=1000;split<;>simp
 |singles k i e=>
  refine wj _ λj hj=>?_;show (if _ then _ else _:List Int).length<=1000;split
  ·simp
  ·simp only [aS];have h1:(GP ((s.fares.filter λf=>Po j k f (mH j (i-1).toNat e.toNat)).map λf=> [TU s k f (mH j (i-1).toNat e.toNat),f.key])).length<=60:=by
    rw [(gC _).length_eq,ab];exact aV (aO _ _) ok.fl
   have h2:=gN (f:=λy:List Int=>y) (k:=2) (l:=GP ((s.fares.filter λf=>Po j k f (mH j (i-1).toNat e.toNat)).map λf=> [TU s k f (mH j (i-1).toNat e.toNat),f.key])) λr hr=>by
    obtain ⟨f,_,rfl⟩:=aj.mp ((gC _).mem_iff.mp hr);exact ay _
   omega
 |pair k i e p q=>
  refine wj _ λj hj=>?_;show (if _ then _ else _:List Int).length<=1000;split
  ·simp
  ·cases z:Vbahaf.bestPair s j k (mH j (i-1).toNat e.toNat) (mH j (p-1).toNat q.toNat) with
   |none=>simp [z]
   |some r=>
    obtain ⟨a,b,c,rfl⟩:=nI z;simp [z]
 |check k l=>exact wj _ λj hj=>(by show 3<=1000;decide)
 |alone k=>
  refine wj _ λj hj=>?_;cases z:Vbahaf.alone (Vbahaf.allSingles s j k) j.segs.length 9 0 with
  |none=>simp [z]
  |some r=>simp [z]
 |count k=>exact wj _ λj hj=>(by show 2<=1000;decide)
 |prefixes k=>
  refine wj _ λj hj=>?_;have:=(ok.jo j hj).ge;simp only [aS,ab,bZ];omega
 |fares=>
  show (0::(s.fares.length:Int)::s.fares.flatMap jW).length<=1000;have h1:=gN (f:=jW) (k:=15) (l:=s.fares) λ_ _=>ay _;have:=ok.fl;simp only [aS];omega
 |told=>
  refine wj _ λj hj=>?_;have:=(ok.jo j hj).ge;have h1:=gN (f:=λg:bT=> [g.carrier,g.src,g.dst,g.day,g.cls]) (k:=5) (l:=j.segs) λ_ _=>ay _;simp only [aS];omega
theorem J7 {s:ag} (ok:kE s) (c:List (List Int)):(stepRows s c).2.length<=1000:=by
 unfold stepRows;cases decode c with
 |none=>exact (by decide:1<=1000)
 |some x=>
  show (if inRange x=true then step s x else (s,[-2])).2.length<=1000;split
  ·exact JG ok x
  ·exact (by decide:1<=1000)
end Lf
namespace Lf
open Vbahaf (Call decode inRange step stepRows)
open PyVbahaf (shape)
abbrev toldOf (s:ag) (cs:List (List (List Int))):List Int:=i5 (iY eX s cs)
inductive MB (K:aa) (vs:List V) (H:Hp) (Q:VK):Prop
 |mk (lc:Addr) (l:List Int) (cs:List (List (List Int))):vs= [.ref lc]->iL K H lc (l.map V.int)->Reads l cs->cs.length<=150->(∀c∈cs, ∀r∈c,r.length<=1000)->(∀(H':Hp) (la:Addr),H' la=some (.lst ((toldOf d6 cs).map V.int))->Q (.ref la) H')->MB K vs H Q
def JL (K:aa):Sp:=λvs H Q _=>MB K vs H Q
theorem _root_.L2.iL.fr {K:aa} {H H':Hp} {a:Addr} {xs:List V} (h:iL K H a xs) (k: ∀o,H a=some o->H' a=some o):iL K H' a xs:=by
 rcases h with (h|⟨o,h⟩)|h
 ·exact .inl (.inl (k _ h))
 ·exact .inl (.inr ⟨o,k _ h⟩)
 ·exact .inr h
theorem Q9 {p:Int} {ns:List Int} {row:Option (List Int)} (h: ∀r∈cx p ns row,r.length<=1000):(row.getD []).length<=1000:=by
 cases row with
 |none=>exact bw _
 |some r=>exact h r (by unfold cx;simp)
section
variable {H H':Hp} {h:HA} {s:ag} {fl:List aq}
theorem aZ.rez (x:aZ K H h d6 []) (z:Addr):aZ K H {h with z:=z} d6 []:=by
 obtain ⟨ok,hc,perm,⟨jv,i1,i2⟩,⟨gH,f1,f2,f3⟩,g,fo,tx,p,n1,n2⟩:=x;exact ⟨ok,hc,perm,⟨jv,i1,i2⟩,⟨gH,f1,f2,⟨f3.1,λi a b ha=>by cases ha⟩⟩,g,fo,tx,p,n1,n2⟩
theorem aZ.aaM (x:aZ K H h s fl) {xs:List V} (hz:H h.z=some (.lst xs)) (nf:h.z∉h.foot) (b:dB h.z H H'):aZ K H' h s fl:=by
 have ho: ∀C dx fs,HO.lst xs≠ .ins C dx fs:=oH;have nm: ∀c∈h.foot,c≠h.z:=λc hc e=>nf (e▸hc);unfold HA.foot at nm;simp only [aB,gJ,or_false] at nm;obtain ⟨ok,hc,perm,⟨jv,i1,i2⟩,⟨gH,f1,f2,f3⟩,⟨kt,t1,t2⟩,⟨ko,o1,o2⟩,⟨kx,x1,x2⟩,p,n1,n2⟩:=x;refine ⟨ok,hc,perm,⟨jv,b _ _ (nm _ (by simp)) i1,?_⟩,⟨gH,b _ _ (nm _ (by simp)) f1,f2.mono λ_ _ z=>z.but hz ho b,f3.mono λ_ _ z=>?_⟩,⟨kt,b _ _ (nm _ (by simp)) t1,t2⟩,⟨ko,b _ _ (nm _ (by simp)) o1,o2⟩,⟨kx,b _ _ (nm _ (by simp)) x1,x2⟩,b _ _ (nm _ (by simp)) p,n1,n2⟩
 ·cases q:s.journey with
  |none=>rw [q] at i2;exact i2
  |some j=>
   rw [q] at i2;obtain ⟨ja,z1,now,l,as,h0,h1,h2,h3,h4⟩:=i2;have nz: ∀l',l'∉h.bn->l'≠h.z:=λl' n e=>n (by rw [e];unfold HA.bn;simp);exact ⟨ja,z1,now.but hz ho b,l,as,h0,h1.but hz ho b,b _ _ (nz _ h0) h2,h3.mono λ_ _ z=>z.but hz ho b,h4.mono (by rintro _ _ ⟨l',z0,z1,z2⟩;exact ⟨l',z0,z1.but hz ho b,b _ _ (nz _ z0) z2⟩)⟩
 ·obtain ⟨l,h0,h1,h2⟩:=z;exact ⟨l,h0,h1.but hz ho b,b _ _ h0 h2⟩
theorem aZ.kinds (x:aZ K H h s fl): ∀b∈h.foot, ∃o,H b=some o/\∀ts,o≠ .tup ts:=λb hb=>by
 obtain ⟨jv,i1,_⟩:=x.inst;obtain ⟨_,f1,_⟩:=x.fares;obtain ⟨_,t1,_⟩:=x.groups;obtain ⟨_,o1,_⟩:=x.floors;obtain ⟨_,x1,_⟩:=x.taxes;unfold HA.foot at hb;simp only [aB,gJ,or_false] at hb;rcases hb with rfl|rfl|rfl|rfl|rfl|rfl
 ·exact ⟨_,i1,λ_=>KH rfl⟩
 ·exact ⟨_,f1,λ_=>KH rfl⟩
 ·exact ⟨_,t1,λ_=>KH rfl⟩
 ·exact ⟨_,o1,λ_=>KH rfl⟩
 ·exact ⟨_,x1,λ_=>KH rfl⟩
 ·exact ⟨_,x.percents,λ_=>KH rfl⟩
end
section
theorem g6:ba ["calls","house","answered","begin","call","told"] ["calls"] (aM (top 124)):=fi
theorem D6 {f:Addr} {fd:agd} (F:I0 K "answers" "answers" (top 124) f fd) (b:Bl mg) (G1:Cl P w K mg base "House" t.iX 1 ["self"] (Fp K t.iX)) (G2:Fn P w K mg base "read_call" 1 ["calls","begin"] (JO K)) (G3:Fn P w K mg base "answer" 12 ["house","place","numbers","row"] (AU K)):
  jZ P w K mg base E6 13 f fd ["calls"] (JL K):=by
 refine F.go g6 (λvs H Q E h=>?_) (λdb A outer s H vs Q E hr h=>?_)
 ·obtain ⟨_,_,_,rfl,_⟩:=h;rfl
 ·intro Xc;obtain ⟨lc,l,cs,rfl,hl,hR,aat,Vz,q⟩:=h;have hz:sizeLine=16777216:=af5;refine ⟨_,(am (st 1 g6.nd (Y3 G1 (hr.mono (by decide))))
   (am (st 2 g6.nd (bJ ax))
   (am (st 3 g6.nd aF)
   (am (vc PassesOwn.never (cB xX (pv 3) (iV b.len (pv 0)) (bS _))
    (am (st 4 g6.nd (pc G2 hr (ae (pv 0) (ae (pv 3) ax))))
   (am (st 5 g6.nd (pc G3 hr (ae (pv 1) (ae (bf cI (pv 4) aF (λ_ _=>rfl)) (ae (bf cI (pv 4) aF (λ_ _=>rfl)) (ae (bf cI (pv 4) aF (λ_ _=>rfl)) ax))))))
   (am (eD (Cg (pv 2) (iV b.len (pv 5))))
   (am (eD (EL (pv 2) (pv 5)))
   (aA (st 3 g6.nd (bf cI (pv 4) aF (λ_ _=>rfl)))))))))
   (aA (aX (pv 2))))))),?_⟩
  refine NL ?_
  intros
  refine λx dx nx tD Rp=>⟨x,dx,rfl,ak,λH1 h hx b1 hh V3=>⟨rfl,?_⟩⟩
  have s1:aD H H1:=dB.same (dQ nx tD) nx b1;have ff: ∀b∈h.foot,H b=none:=λb hb=>by
   by_cases e:b=x
   ·rw [e];exact nx
   ·exact (dQ nx tD).free (V3 b hb e)
  have ncf: ∀o,H lc=some o->lc∉h.foot:=λo ho z=>by rw [ff lc z] at ho;cases ho
  have Zh: ∀la,H1 la=none->∀o,H lc=some o->lc≠la:=λla Ee o e z=>by
   have:=s1 _ _ e;rw [z,Ee] at this;cases this
  subst hx;refine ⟨bw _,λla Ee=>?_⟩;have Zi:la∉h.foot:=λz=>by
   obtain ⟨o,e,_⟩:=hh.kinds la z;rw [Ee] at e;cases e
  have nca:=Zh la Ee;have s2:aD H1 (upd H1 la (.lst [])):=aD.new Ee;obtain ⟨g,ga,gz,gf,hg⟩: ∃g:HA,g.a=h.a/\la=g.z/\g.foot=h.foot/\aZ K (upd H1 la (.lst [])) g d6 []:=⟨{h with z:=la},rfl,rfl,rfl,(hh.mono s2).rez la⟩
  rw [<-gf] at Zi ncf;rw [<-ga];refine ⟨λk σ H'=> ∃(s:ag) (fl:List aq) (bg:Nat) (SE:List (List (List Int))) (dn:List Int),k=SE.length/\(∃v4 v5,σ= [some (.ref lc),some (.ref g.a),some (.ref la),some (.int bg),v4,v5])/\aZ K H' g s fl/\(∀o,H lc=some o->H' lc=some o)/\bg<=l.length/\Reads (l.drop bg) SE/\H' la=some (.lst (dn.map V.int))/\toldOf d6 cs=dn++toldOf s SE/\SE.length<=150/\dn.length+1001*SE.length<=1001*150/\∀c∈SE, ∀r∈c,r.length<=1000,
   ⟨cs.length,d6,[],0,cs,[],rfl,⟨_,_,rfl⟩,hg,λo e=>s2 _ _ (s1 _ _ e),bw _,by simpa using hR,ak,rfl,aat,by simp only [dA];omega,Vz⟩,?_⟩
  rintro k σ H2 ⟨s,fl,bg,SE,dn,rfl,⟨v4,v5,rfl⟩,Tt,Dq,hbg,XJ,XI,P4,We,hdn,K2⟩;have V8:=hl.fr Dq;have VU:(((l.map V.int).length:Nat):Int)=l.length:=by rw [ab]
  refine ⟨_,rfl,_,rfl,lc,_,rfl, .inl V8,_,_,rfl,rfl,_,rfl,?_⟩;by_cases i4:bg<l.length
  ·refine dT (by rw [VU];omega) ?_;generalize hdl:l.drop bg=dl at XJ;cases XJ with
   |nil=>
    have:=congrArg wG hdl;rw [mJ,dA] at this;omega
   | @cons _ p ns row rest TJ hC hR3=>
    refine wN (λeM H'=> ∃(s:ag) (fl:List aq) (bg:Nat) (dn:List Int),(∃v4 v5,eM= [some (.ref lc),some (.ref g.a),some (.ref la),some (.int bg),v4,v5])/\aZ K H' g s fl/\(∀o,H lc=some o->H' lc=some o)/\bg<=l.length/\Reads (l.drop bg) TJ/\H' la=some (.lst (dn.map V.int))/\toldOf d6 cs=dn++toldOf s TJ/\dn.length+1001*TJ.length<=1001*150)
     (by rintro eM H' ⟨s',Sq,bg',dn',z1,z2,z3,z4,z5,z6,z7,z8⟩;exact ⟨TJ.length,by rw [aS];omega,s',Sq,bg',TJ,dn',rfl,z1,z2,z3,z4,z5,z6,z7,by rw [aS] at We;omega,z8,λc hc=>K2 c (aE _ hc)⟩) ?_
    intro Nv;have ZN:=Q9 (K2 _ aN);refine ⟨_,rfl,_,rfl,lc,l,bg,p,ns,row,rest,rfl,V8,hbg,by rw [hdl];exact hC,λH3 tt ln lw e s3 MY FR P3 rj RV he K3=>?_⟩;refine ⟨_,rfl,_,rfl,tt,_,0,_,rfl,rfl, .of P3,at_of (j:=0) rfl rfl,_,rfl,tt,_,1,_,rfl,rfl, .of P3,at_of (j:=1) rfl rfl,_,rfl,tt,_,2,_,rfl,rfl, .of P3,at_of (j:=2) rfl rfl,g,s,fl,p,ns,row,ln,lw,rfl,Tt.mono s3,rj,RV,hC.shp,ZN,⟨λe=>?_,_,gz▸s3 _ _ XI⟩,λH4 lt fl4 fr Ro VQ hh4=>?_⟩
    ·rw [e, <-gz,XI] at MY;cases MY
    have ntf:tt∉g.foot:=λz=>by
     obtain ⟨o,e1,e2⟩:=(Tt.mono s3).kinds tt z;rw [P3] at e1;cases e1;exact e2 _ rfl
    have ha3:=s3 _ _ XI;have XH:=fr _ _ Zi ha3;have hl4: ∀o,H lc=some o->H4 lc=some o:=λo e=>fr _ _ (ncf o e) (s3 _ _ (Dq o e));have nta:lt≠la:=(aG ha3 Ro).symm;have hlen:=J7 Tt.ok (cx p ns row);have Vw:=fr _ _ ntf P3;refine ⟨_,rfl, .inl ⟨rfl,_, .of XH⟩,_,rfl,lt,_,rfl, .inl (.of VQ),la,_,_,rfl,rfl,XH,?_,?_⟩
    ·rw [ab];rw [aS] at hdn;omega
    ·have s5:dB la H4 (upd H4 la (.lst (dn.map V.int++ [.int ((((stepRows s (cx p ns row)).2.map V.int).length:Nat):Int)]))):=dB.upd;refine ⟨_,rfl, .inl ⟨rfl,_, .of ak⟩,_,rfl,la,lt,_,_,rfl,rfl,ak,bm VQ nta,?_,?_⟩
     ·rw [aK,ab,ab,gd];rw [aS] at hdn;omega
     ·have S9:tt≠la:=i8 Vw XH rfl;have bz: ∀xs:List V,aZ K (upd H4 la (.lst xs)) g (stepRows s (cx p ns row)).1 fl4:=λxs=>by
       subst gz;exact hh4.aaM XH Zi dB.upd
      refine ⟨_,rfl,tt,_,3,_,rfl,rfl, .of (bm (bm Vw S9) S9),at_of (j:=3) rfl rfl,?_⟩;refine ⟨(stepRows s (cx p ns row)).1,fl4,e,dn++(((stepRows s (cx p ns row)).2.length:Nat):Int)::(stepRows s (cx p ns row)).2,⟨_,_,rfl⟩,?_,λo ho=>bm (bm (hl4 o ho) (nca o ho)) (nca o ho),he,by rw [K3];exact hR3,?_,?_,?_⟩
      ·rw [Np];exact bz _
      ·rw [ak,aP,bb,ab,cp];rfl
      ·rw [P4,cp];exact congrArg (dn++ ·) (Bm s (cx p ns row) TJ)
      ·rw [aK,aS];rw [aS] at hdn;omega
  ·refine dF (by rw [VU];omega) ?_;have e0:l.drop bg= []:=iz (by omega);rw [e0] at XJ;cases XJ with
   |nil=>
    refine ⟨_,rfl,q H2 la ?_⟩;rw [P4,XI];show _=some (HO.lst ((dn++ []).map V.int));rw [dc]
   |cons hC _=>cases hC
end
end Lf
namespace Lf
section
theorem ok_all (X:Txt P w K mg t) {f:Addr} {fd:agd} (F:I0 K "answers" "answers" (top 124) f fd):jZ P w K mg base E6 13 f fd ["calls"] (JL K):=by
 have b:=X.bl;have c:=X.cs;have d:=X.ds;have k:=X.ks;have T:=X.tabs;have digit:=LU (P:=P) (w:=w) (base:=base) d.Ij;have takes:=LB (P:=P) (w:=w) (base:=base) d.uH digit c.Da;have suits:=LC (P:=P) (w:=w) (base:=base) d.suits digit takes b c.wm;have Vc:=OU (P:=P) (w:=w) (base:=base) d.HP;have Ve:=LN (P:=P) (w:=w) (base:=base) d.Es;have Uy:=Iy (P:=P) (w:=w) (base:=base) d.Cd Vc suits c.Pk;have Wl:=OV (P:=P) (w:=w) (base:=base) d.L4 Vc suits c.nU;have Qh:=LS (P:=P) (w:=w) (base:=base) d.IE Ve suits c.nU;have N9:=OP (P:=P) (w:=w) (base:=base) d.N9 b;have oby:=Sh (P:=P) (w:=w) (base:=base) d.HD N9;have comp:=Pb (P:=P) (w:=w) (base:=base) k (LO d.jI b);have off:=SI (P:=P) (w:=w) (base:=base) k b oby Uy Wl Qh;have fo:=Wq (P:=P) (w:=w) (base:=base) d.Ce b comp off;have need:=OQ (P:=P) (w:=w) (base:=base) d.xp c;have Af:=ID (P:=P) (w:=w) (base:=base) d.Af;have tog:=Sf (P:=P) (w:=w) (base:=base) d.B9;have Zk:=OR (P:=P) (w:=w) (base:=base) d.BI need Wl Qh Af tog;have Vb:=OT (P:=P) (w:=w) (base:=base) d.zB b need (Sl d.vE b Af) tog;have cho:=SJ (P:=P) (w:=w) (base:=base) k b;have YV:=OJ (P:=P) (w:=w) (base:=base) d.va Vb cho;have Qg:=LP (P:=P) (w:=w) (base:=base) d.zS (LF d.uT b c cho);have L8:=LQ (P:=P) (w:=w) (base:=base) d.zT fo Qg YV;have yU:=Im (P:=P) (w:=w) (base:=base) d.wg (Sj d.zx);have Ur:=OG (P:=P) (w:=w) (base:=base) d.JE b;have lsum:=OS (P:=P) (w:=w) (base:=base) d.Ep b yU Ur;have pz:=Sg (P:=P) (w:=w) (base:=base) d.zy b (Lr d.yT b c) (Wp d.xj yU Ur);have UT:=OO (P:=P) (w:=w) (base:=base) d.xb b lsum;have T3:=OF (P:=P) (w:=w) (base:=base) d.lX L8 UT;have taxes:=LA (P:=P) (w:=w) (base:=base) d.xk b;have isc:=IB (P:=P) (w:=w) (base:=base) d.zG b;have WI:=OW (P:=P) (w:=w) (base:=base) d.vp comp off;have Qi:=Cb (P:=P) (w:=w) (base:=base) d.tI comp;have TY:=Lq (P:=P) (w:=w) (base:=base) d.EI c (Sn d.zF b) (Ly d.tK b) (EG d.pR b (Iz d.rR b)) Qi (OH d.vZ b Uy) (OI d.wa b Zk);have amt:=So (P:=P) (w:=w) (base:=base) d.D0 b c;have aw:=Wr (P:=P) (w:=w) (base:=base) d.EX b;have A:As P w K mg base:=by
  constructor
  ·exact LK d.Kj b c (Pa k)
  ·exact Lz d.G9 c
  ·exact LL d.tu
  ·exact IA d.Hw c amt
  ·exact OM d.N0 amt
  ·exact LI d.Be
  ·exact LH d.Kh
  ·exact LJ d.Bg b c (SH k) (LG d.KW) (O9 k)
  ·exact Io d.DI c (ON d.xh L8 lsum pz)
  ·exact Ip d.DJ b c (Se d.BN T3) taxes
  ·exact Ls d.yW b c isc WI
  ·exact Lv d.G7 b c (LM d.lj isc) WI Vb
  ·exact Iu d.DM (LW d.zZ c (LD d.y3 b c) TY (Lw d.JC b Qi N9))
  ·exact Iw d.DN c (LX d.qF fo Qg UT)
  ·exact Ir d.DL (LV d.EO b L8 yU)
  ·exact Lu d.w6 c T3
  ·exact Iq d.DK b
  ·exact Lx d.yX b taxes
 exact D6 F b (Ms k c b) (OL d.Ht b T) (IC d.answer b c X.changes X.Hu (Sk d.BS T aw (Wn d.zE b aw)) A)
theorem Yr (X:Txt P w K mg t) {fa:Addr} (hm:mg "answers" =some (.ref fa)): ∃fd:agd,(∀(s:afU) (us:List Value),us.length=(["calls"]:List Str).length->agM s fd ⟨us,[]⟩ ((["calls"]:List Str).zip us))/\∀base:afV,K.In base->base.Ns af4 mg->jZ P w K mg base E6 14 fa fd ["calls"] (JL K):=by
 obtain ⟨f,fd,F,hf,_⟩:=X.ds.answers;have e:=hm.symm.trans hf;cases e;refine ⟨fd,?_,λbase _ _=>(ok_all X F).mono (by decide)⟩;obtain ⟨oc,od,kV,doc,pm,an,db,ct,wJ,rfl,lk,Ii⟩:=F.ex;exact λs us hu=>match us,hu with
  | [_],_=> .of_eq rfl
end
end Lf
end
namespace PySem.W.Fast
def tw4638720853173150720:=0
def tw9891871189028774784:=0
def tw13097658905729582594:=0
def tw2826789096396284579:=0
def tw11973188016449714789:=0
def tw4533803171050711877:=0
def tw4239142457645858985:=0
def tw14576977253975429321:=0
def tw1977035871693428043:=0
def tw2109235648456491:=0
def tw4472598639060382063:=0
def tw543773317806900946:=0
def tw14933265607738074739:=0
def tw3303343621796821173:=0
def tw6153204420504524598:=0
def tw11460951212547012534:=0
def tw7344679256398870200:=0
def tw13995936211880427195:=0
def tw2514571266387804880:=0
def tw7609088369054358371:=0
def tw4393302113108413718:=0
def tw9695521831216255900:=0
def tw14874734218485590429:=0
def tw12568091666622111401:=0
def tw6264384823435891442:=0
def tw2448414366880176499:=0
def tw11900252748084626836:=0
def tw9738609790216047836:=0
def tw14213501348095696705:=0
def tw1741163637771740552:=0
def tw7768838066676067446:=0
def tw1981162957501568550:=0
def tw18333512723210922667:=0
def tw3127511266634916774:=0
def tw1352507038820677105:=0
def tw8299425575725441186:=0
def tw14864139769391980190:=0
def tw14599995248427313169:=0
def tw14809008216597760112:=0
def tw16143739150282327402:=0
def tw6585378186781893120:=0
def tw6917844281800049373:=0
def tw8430387155084304465:=0
def tw4851289863364091858:=0
def tw15540026796602315906:=0
def tw7260656353695313337:=0
def tw4856372876883920732:=0
def tw3320514921199647376:=0
def tw17781202689638890260:=0
def tw7219049245537025409:=0
def tw8946782601791469580:=0
def tw3067926015978409958:=0
def tw2013567593926789279:=0
def tw16928214128786618451:=0
def tw12723303130883957810:=0
def tw9102818528221543677:=0
def tw4745236698202417800:=0
def tw650276444944969032:=0
def tw15306332898165762678:=0
def tw9692934998002609318:=0
def tw18350881054904168814:=0
def tw5478958470859332612:=0
def tw605472582265256192:=0
def tw15711688965455159804:=0
def tw14609158790667899234:=0
def tw1078078070062618265:=0
def tw10440519166544946674:=0
def tw11784295181605339725:=0
def tw15761550008707893631:=0
def tw1717625180292617780:=0
def tw7095998910028469440:=0
def tw14356890459427846287:=0
def tw3030420887767856435:=0
def tw478805079599015277:=0
def tw8228714376716280464:=0
def tw15336796628361518129:=0
def tw2905542849684749714:=0
def tw4714648791012542297:=0
def tw3252738256493455384:=0
def tw14757155839228086997:=0
def tw10503777969644833442:=0
def tw13154501178610491316:=0
def tw2333154642715618060:=0
def tw7973952482144976717:=0
def tw10613040838811796469:=0
def tw10448739163852889623:=0
def tw13468958173318099234:=0
def tw12087073605599052802:=0
def tw11639791038977592262:=0
def tw17503447474605329110:=0
def tw18120414611378666716:=0
def tw445491477382339540:=0
def tw17465663401940163841:=0
def tw1081639469423991281:=0
def tw17600089667451555774:=0
def tw12370300875436142307:=0
def tw4607709968021559686:=0
def tw13522679010335596945:=0
def tw1197258079119047555:=0
def tw9295327093909022635:=0
def tw17187740648602588411:=0
def tw7024128017269537559:=0
def tw14816625164980191990:=0
def tw9654117105873459038:=0
def tw9092565160432454066:=0
def tw1526441737583774776:=0
def tw7281475927046127528:=0
def tw9428939950644148306:=0
def tw2742959978392605133:=0
def tw17842422749337697009:=0
def tw6379031098182015270:=0
def tw12165267535551581335:=0
def tw8177755782710844909:=0
def tw6984787459275411135:=0
def tw12037686916292540248:=0
def tw5824692107436167769:=0
def tw4582054829867954863:=0
def tw18345802853086275394:=0
def tw14163669864271424753:=0
def tw18015290661934504533:=0
def tw13701727133939769951:=0
def tw15544907388260660786:=0
def tw8515617411729852191:=0
def tw14334850058780796661:=0
def tw7327784305829655124:=0
def tw7528634872743243442:=0
def tw6979789932569873815:=0
def tw5161937413520666455:=0
def tw15122191799205094684:=0
def tw5765727518930800485:=0
def tw15227822669410795619:=0
def tw11931794927107579829:=0
def tw1644971282200997098:=0
def tw5762644197164200732:=0
def tw4620742385595683545:=0
def tw13165309809588761283:=0
def tw11673519785425580392:=0
def tw7956414996953017237:=0
def tw18412866097563501168:=0
def tw14668434973290254342:=0
def tw11133644935342134023:=0
def tw748090815135888961:=0
def tw4022942011510612450:=0
def tw10034109543931444141:=0
def tw16905072976250920534:=0
def tw17949036654643465445:=0
def tw10842700102949852436:=0
def tw12997683924544237828:=0
def tw7882067317617790717:=0
def tw9924587728794792375:=0
def tw11237365952649791436:=0
def tw4950764398734969348:=0
def tw4884686951709762256:=0
def tw11881458735111615311:=0
def tw15790304747164935578:=0
def tw1194440473648287440:=0
def tw15124358045856406581:=0
def tw3604866530685712696:=0
def tw5329794772098797175:=0
def tw12999351720964254509:=0
def tw558521665672690770:=0
end PySem.W.Fast
open PySem PySem.W PyProof.Rows
set_option maxRecDepth 100000 in
set_option maxHeartbeats 0 in
theorem PySem.Challenge.cw_leastfares_s01_answers_holds : PySem.Challenge.rw_leastfares_s01_answers.Holds := by
 w_on;k_headS;(case hw=>exact ⟨[.list [.int 16]],by decide+kernel,by decide+kernel⟩)
 k_fillS
 refine L2.QJ (r:=PySem.Challenge.rw_leastfares_s01_answers) (k:=14) (CX:=L2.E6) (ps:= ["calls"]) (sp:=Lf.JL) (by decide+kernel) rfl rfl ⟨rfl,by decide,by decide⟩ (λw h Y=>PySem.W.kIn_of Y) ?F ?S (λ_ _ _ _ z=>z)
 case F=>
  intro w mg fa h Y KX G hmg
  have bl:Lf.Bl mg:=by
   constructor
   all_goals (refine' PySem.W.mg_none_of KX G ?_;k_is)
  have cs:Lf.Cs mg:=by
   constructor
   ·refine' Lf.ace KX G ?u0;(case u0=>k_is)
   ·refine' Lf.ace KX G ?u1;(case u1=>k_is)
   ·refine' Lf.ace KX G ?u2;(case u2=>k_is)
   ·refine' Lf.ace KX G ?u3;(case u3=>k_is)
   ·refine' Lf.ace KX G ?u4;(case u4=>k_is)
   ·refine' Lf.ace KX G ?u5;(case u5=>k_is)
   ·refine' Lf.ace KX G ?u6;(case u6=>k_is)
   ·refine' Lf.ace KX G ?u7;(case u7=>k_is)
   ·refine' Lf.ace KX G ?u8;(case u8=>k_is)
   ·refine' Lf.ace KX G ?u9;(case u9=>k_is)
   ·refine' Lf.ace KX G ?u10;(case u10=>k_is)
   ·refine' Lf.ace KX G ?u11;(case u11=>k_is)
   ·refine' Lf.ace KX G ?u12;(case u12=>k_is)
   ·refine' Lf.ace KX G ?u13;(case u13=>k_is)
   ·refine' Lf.ace KX G ?u14;(case u14=>k_is)
   ·refine' Lf.ace KX G ?u15;(case u15=>k_is)
   ·refine' Lf.ace KX G ?u16;(case u16=>k_is)
   ·refine' Lf.ace KX G ?u17;(case u17=>k_is)
   ·refine' Lf.ace KX G ?u18;(case u18=>k_is)
   ·refine' Lf.ace KX G ?u19;(case u19=>k_is)
   ·refine' Lf.ace KX G ?u20;(case u20=>k_is)
   ·refine' Lf.ace KX G ?u21;(case u21=>k_is)
   ·refine' Lf.ace KX G ?u22;(case u22=>k_is)
   ·refine' Lf.ace KX G ?u23;(case u23=>k_is)
   ·refine' Lf.ace KX G ?u24;(case u24=>k_is)
   ·refine' Lf.ace KX G ?u25;(case u25=>k_is)
   ·refine' Lf.ace KX G ?u26;(case u26=>k_is)
   ·refine' Lf.ace KX G ?u27;(case u27=>k_is)
  have ds:Lf.Ds (L2.KOf KX) mg:=by
   dsimp only [L2.KOf]
   constructor
   ·refine' Lf.acb KX G ?a18 ?l18 ?_ ?_;(case a18=>k_is);(case l18=>k_is);all_goals k_is
   ·refine' Lf.acb KX G ?a19 ?l19 ?_ ?_;(case a19=>k_is);(case l19=>k_is);all_goals k_is
   ·refine' Lf.acb KX G ?a20 ?l20 ?_ ?_;(case a20=>k_is);(case l20=>k_is);all_goals k_is
   ·refine' Lf.acb KX G ?a21 ?l21 ?_ ?_;(case a21=>k_is);(case l21=>k_is);all_goals k_is
   ·refine' Lf.acb KX G ?a22 ?l22 ?_ ?_;(case a22=>k_is);(case l22=>k_is);all_goals k_is
   ·refine' Lf.acb KX G ?a23 ?l23 ?_ ?_;(case a23=>k_is);(case l23=>k_is);all_goals k_is
   ·refine' Lf.acb KX G ?a24 ?l24 ?_ ?_;(case a24=>k_is);(case l24=>k_is);all_goals k_is
   ·refine' Lf.acb KX G ?a25 ?l25 ?_ ?_;(case a25=>k_is);(case l25=>k_is);all_goals k_is
   ·refine' Lf.acb KX G ?a26 ?l26 ?_ ?_;(case a26=>k_is);(case l26=>k_is);all_goals k_is
   ·refine' Lf.acb KX G ?a27 ?l27 ?_ ?_;(case a27=>k_is);(case l27=>k_is);all_goals k_is
   ·refine' Lf.acb KX G ?a32 ?l32 ?_ ?_;(case a32=>k_is);(case l32=>k_is);all_goals k_is
   ·refine' Lf.acb KX G ?a33 ?l33 ?_ ?_;(case a33=>k_is);(case l33=>k_is);all_goals k_is
   ·refine' Lf.acb KX G ?a34 ?l34 ?_ ?_;(case a34=>k_is);(case l34=>k_is);all_goals k_is
   ·refine' Lf.acb KX G ?a35 ?l35 ?_ ?_;(case a35=>k_is);(case l35=>k_is);all_goals k_is
   ·refine' Lf.acb KX G ?a43 ?l43 ?_ ?_;(case a43=>k_is);(case l43=>k_is);all_goals k_is
   ·refine' Lf.acb KX G ?a44 ?l44 ?_ ?_;(case a44=>k_is);(case l44=>k_is);all_goals k_is
   ·refine' Lf.acb KX G ?a45 ?l45 ?_ ?_;(case a45=>k_is);(case l45=>k_is);all_goals k_is
   ·refine' Lf.acb KX G ?a46 ?l46 ?_ ?_;(case a46=>k_is);(case l46=>k_is);all_goals k_is
   ·refine' Lf.acb KX G ?a47 ?l47 ?_ ?_;(case a47=>k_is);(case l47=>k_is);all_goals k_is
   ·refine' Lf.acb KX G ?a48 ?l48 ?_ ?_;(case a48=>k_is);(case l48=>k_is);all_goals k_is
   ·refine' Lf.acb KX G ?a49 ?l49 ?_ ?_;(case a49=>k_is);(case l49=>k_is);all_goals k_is
   ·refine' Lf.acb KX G ?a50 ?l50 ?_ ?_;(case a50=>k_is);(case l50=>k_is);all_goals k_is
   ·refine' Lf.acb KX G ?a51 ?l51 ?_ ?_;(case a51=>k_is);(case l51=>k_is);all_goals k_is
   ·refine' Lf.acb KX G ?a52 ?l52 ?_ ?_;(case a52=>k_is);(case l52=>k_is);all_goals k_is
   ·refine' Lf.acb KX G ?a53 ?l53 ?_ ?_;(case a53=>k_is);(case l53=>k_is);all_goals k_is
   ·refine' Lf.acb KX G ?a54 ?l54 ?_ ?_;(case a54=>k_is);(case l54=>k_is);all_goals k_is
   ·refine' Lf.acb KX G ?a58 ?l58 ?_ ?_;(case a58=>k_is);(case l58=>k_is);all_goals k_is
   ·refine' Lf.acb KX G ?a59 ?l59 ?_ ?_;(case a59=>k_is);(case l59=>k_is);all_goals k_is
   ·refine' Lf.acb KX G ?a60 ?l60 ?_ ?_;(case a60=>k_is);(case l60=>k_is);all_goals k_is
   ·refine' Lf.acb KX G ?a61 ?l61 ?_ ?_;(case a61=>k_is);(case l61=>k_is);all_goals k_is
   ·refine' Lf.acb KX G ?a62 ?l62 ?_ ?_;(case a62=>k_is);(case l62=>k_is);all_goals k_is
   ·refine' Lf.acb KX G ?a63 ?l63 ?_ ?_;(case a63=>k_is);(case l63=>k_is);all_goals k_is
   ·refine' Lf.acb KX G ?a72 ?l72 ?_ ?_;(case a72=>k_is);(case l72=>k_is);all_goals k_is
   ·refine' Lf.acb KX G ?a73 ?l73 ?_ ?_;(case a73=>k_is);(case l73=>k_is);all_goals k_is
   ·refine' Lf.acb KX G ?a74 ?l74 ?_ ?_;(case a74=>k_is);(case l74=>k_is);all_goals k_is
   ·refine' Lf.acb KX G ?a75 ?l75 ?_ ?_;(case a75=>k_is);(case l75=>k_is);all_goals k_is
   ·refine' Lf.acb KX G ?a76 ?l76 ?_ ?_;(case a76=>k_is);(case l76=>k_is);all_goals k_is
   ·refine' Lf.acb KX G ?a77 ?l77 ?_ ?_;(case a77=>k_is);(case l77=>k_is);all_goals k_is
   ·refine' Lf.acb KX G ?a78 ?l78 ?_ ?_;(case a78=>k_is);(case l78=>k_is);all_goals k_is
   ·refine' Lf.acb KX G ?a79 ?l79 ?_ ?_;(case a79=>k_is);(case l79=>k_is);all_goals k_is
   ·refine' Lf.acb KX G ?a80 ?l80 ?_ ?_;(case a80=>k_is);(case l80=>k_is);all_goals k_is
   ·refine' Lf.acb KX G ?a81 ?l81 ?_ ?_;(case a81=>k_is);(case l81=>k_is);all_goals k_is
   ·refine' Lf.acb KX G ?a82 ?l82 ?_ ?_;(case a82=>k_is);(case l82=>k_is);all_goals k_is
   ·refine' Lf.acb KX G ?a86 ?l86 ?_ ?_;(case a86=>k_is);(case l86=>k_is);all_goals k_is
   ·refine' Lf.acb KX G ?a87 ?l87 ?_ ?_;(case a87=>k_is);(case l87=>k_is);all_goals k_is
   ·refine' Lf.acb KX G ?a88 ?l88 ?_ ?_;(case a88=>k_is);(case l88=>k_is);all_goals k_is
   ·refine' Lf.acb KX G ?a89 ?l89 ?_ ?_;(case a89=>k_is);(case l89=>k_is);all_goals k_is
   ·refine' Lf.acb KX G ?a90 ?l90 ?_ ?_;(case a90=>k_is);(case l90=>k_is);all_goals k_is
   ·refine' Lf.acb KX G ?a91 ?l91 ?_ ?_;(case a91=>k_is);(case l91=>k_is);all_goals k_is
   ·refine' Lf.acb KX G ?a93 ?l93 ?_ ?_;(case a93=>k_is);(case l93=>k_is);all_goals k_is
   ·refine' Lf.acb KX G ?a94 ?l94 ?_ ?_;(case a94=>k_is);(case l94=>k_is);all_goals k_is
   ·refine' Lf.acb KX G ?a95 ?l95 ?_ ?_;(case a95=>k_is);(case l95=>k_is);all_goals k_is
   ·refine' Lf.acb KX G ?a96 ?l96 ?_ ?_;(case a96=>k_is);(case l96=>k_is);all_goals k_is
   ·refine' Lf.acb KX G ?a97 ?l97 ?_ ?_;(case a97=>k_is);(case l97=>k_is);all_goals k_is
   ·refine' Lf.acb KX G ?a98 ?l98 ?_ ?_;(case a98=>k_is);(case l98=>k_is);all_goals k_is
   ·refine' Lf.acb KX G ?a99 ?l99 ?_ ?_;(case a99=>k_is);(case l99=>k_is);all_goals k_is
   ·refine' Lf.acb KX G ?a100 ?l100 ?_ ?_;(case a100=>k_is);(case l100=>k_is);all_goals k_is
   ·refine' Lf.acb KX G ?a101 ?l101 ?_ ?_;(case a101=>k_is);(case l101=>k_is);all_goals k_is
   ·refine' Lf.acb KX G ?a102 ?l102 ?_ ?_;(case a102=>k_is);(case l102=>k_is);all_goals k_is
   ·refine' Lf.acb KX G ?a103 ?l103 ?_ ?_;(case a103=>k_is);(case l103=>k_is);all_goals k_is
   ·refine' Lf.acb KX G ?a106 ?l106 ?_ ?_;(case a106=>k_is);(case l106=>k_is);all_goals k_is
   ·refine' Lf.acb KX G ?a107 ?l107 ?_ ?_;(case a107=>k_is);(case l107=>k_is);all_goals k_is
   ·refine' Lf.acb KX G ?a108 ?l108 ?_ ?_;(case a108=>k_is);(case l108=>k_is);all_goals k_is
   ·refine' Lf.acb KX G ?a109 ?l109 ?_ ?_;(case a109=>k_is);(case l109=>k_is);all_goals k_is
   ·refine' Lf.acb KX G ?a110 ?l110 ?_ ?_;(case a110=>k_is);(case l110=>k_is);all_goals k_is
   ·refine' Lf.acb KX G ?a111 ?l111 ?_ ?_;(case a111=>k_is);(case l111=>k_is);all_goals k_is
   ·refine' Lf.acb KX G ?a112 ?l112 ?_ ?_;(case a112=>k_is);(case l112=>k_is);all_goals k_is
   ·refine' Lf.acb KX G ?a113 ?l113 ?_ ?_;(case a113=>k_is);(case l113=>k_is);all_goals k_is
   ·refine' Lf.acb KX G ?a114 ?l114 ?_ ?_;(case a114=>k_is);(case l114=>k_is);all_goals k_is
   ·refine' Lf.acb KX G ?a115 ?l115 ?_ ?_;(case a115=>k_is);(case l115=>k_is);all_goals k_is
   ·refine' Lf.acb KX G ?a116 ?l116 ?_ ?_;(case a116=>k_is);(case l116=>k_is);all_goals k_is
   ·refine' Lf.acb KX G ?a117 ?l117 ?_ ?_;(case a117=>k_is);(case l117=>k_is);all_goals k_is
   ·refine' Lf.acb KX G ?a118 ?l118 ?_ ?_;(case a118=>k_is);(case l118=>k_is);all_goals k_is
   ·refine' Lf.acb KX G ?a119 ?l119 ?_ ?_;(case a119=>k_is);(case l119=>k_is);all_goals k_is
   ·refine' Lf.acb KX G ?a123 ?l123 ?_ ?_;(case a123=>k_is);(case l123=>k_is);all_goals k_is
   ·refine' Lf.acb KX G ?a124 ?l124 ?_ ?_;(case a124=>k_is);(case l124=>k_is);all_goals k_is
  obtain ⟨cFare,hFare⟩: ∃C,Lf.Dc (L2.KOf KX) mg "Fare" "Fare.__init__" (L2.inClass (Lf.top 3) 0) C ["self","numbers"]/\L2.bG (L2.KOf KX) C "numbers"/\L2.bG (L2.KOf KX) C "key"/\L2.bG (L2.KOf KX) C "carrier"/\L2.bG (L2.KOf KX) C "near"/\L2.bG (L2.KOf KX) C "far"/\L2.bG (L2.KOf KX) C "way"/\L2.bG (L2.KOf KX) C "amount"/\L2.bG (L2.KOf KX) C "classes"/\L2.bG (L2.KOf KX) C "weekdays"/\L2.bG (L2.KOf KX) C "days_ahead"/\L2.bG (L2.KOf KX) C "least_stay"/\L2.bG (L2.KOf KX) C "most_stay"/\L2.bG (L2.KOf KX) C "group"/\L2.bG (L2.KOf KX) C "open_ends"/\L2.bG (L2.KOf KX) C "kinds"/\L2.bG (L2.KOf KX) C "most_segments" :=by
   dsimp only [L2.KOf,L2.bG]
   refine' ⟨_,Lf.acd KX G ?a_0 ?i_0 ?f_0 ?l_0 ?c_0 ?k_0 ?pg_0 ?hd_0 ?po_0 ?sa_0 ?mk_0 ?kc_0 ?b_0,?n0_0,?n1_0,?n2_0,?n3_0,?n4_0,?n5_0,?n6_0,?n7_0,?n8_0,?n9_0,?n10_0,?n11_0,?n12_0,?n13_0,?n14_0,?n15_0⟩
   (case a_0=>k_is);(case i_0=>k_is);(case f_0=>k_is);(case l_0=>k_is);(case c_0=>k_is);(case k_0=>k_is);(case pg_0=>k_is);(case hd_0=>k_is);(case po_0=>k_is);(case sa_0=>k_is);(case mk_0=>k_is);(case kc_0=>k_is);(case b_0=>exact λ_ _ _ _ _ _=>Lf.ar2 λ_ _=>rfl)
   all_goals k_is
  obtain ⟨cSegment,hSegment⟩: ∃C,Lf.Dc (L2.KOf KX) mg "Segment" "Segment.__init__" (L2.inClass (Lf.top 4) 0) C ["self","numbers"]/\L2.bG (L2.KOf KX) C "numbers"/\L2.bG (L2.KOf KX) C "carrier"/\L2.bG (L2.KOf KX) C "origin"/\L2.bG (L2.KOf KX) C "target"/\L2.bG (L2.KOf KX) C "day"/\L2.bG (L2.KOf KX) C "booking" :=by
   dsimp only [L2.KOf,L2.bG]
   refine' ⟨_,Lf.acd KX G ?a_1 ?i_1 ?f_1 ?l_1 ?c_1 ?k_1 ?pg_1 ?hd_1 ?po_1 ?sa_1 ?mk_1 ?kc_1 ?b_1,?n0_1,?n1_1,?n2_1,?n3_1,?n4_1,?n5_1⟩
   (case a_1=>k_is);(case i_1=>k_is);(case f_1=>k_is);(case l_1=>k_is);(case c_1=>k_is);(case k_1=>k_is);(case pg_1=>k_is);(case hd_1=>k_is);(case po_1=>k_is);(case sa_1=>k_is);(case mk_1=>k_is);(case kc_1=>k_is);(case b_1=>exact λ_ _ _ _ _ _=>Lf.ar2 λ_ _=>rfl)
   all_goals k_is
  obtain ⟨cJourney,hJourney⟩: ∃C,Lf.Dc (L2.KOf KX) mg "Journey" "Journey.__init__" (L2.inClass (Lf.top 5) 0) C ["self","now","segments"]/\L2.bG (L2.KOf KX) C "now"/\L2.bG (L2.KOf KX) C "segments" :=by
   dsimp only [L2.KOf,L2.bG]
   refine' ⟨_,Lf.acd KX G ?a_2 ?i_2 ?f_2 ?l_2 ?c_2 ?k_2 ?pg_2 ?hd_2 ?po_2 ?sa_2 ?mk_2 ?kc_2 ?b_2,?n0_2,?n1_2⟩
   (case a_2=>k_is);(case i_2=>k_is);(case f_2=>k_is);(case l_2=>k_is);(case c_2=>k_is);(case k_2=>k_is);(case pg_2=>k_is);(case hd_2=>k_is);(case po_2=>k_is);(case sa_2=>k_is);(case mk_2=>k_is);(case kc_2=>k_is);(case b_2=>exact λ_ _ _ _ _ _=>Lf.ar3 λ_ _ _=>rfl)
   all_goals k_is
  obtain ⟨cHouse,hHouse⟩: ∃C,Lf.Dc (L2.KOf KX) mg "House" "House.__init__" (L2.inClass (Lf.top 6) 0) C ["self"]/\L2.bG (L2.KOf KX) C "fares"/\L2.bG (L2.KOf KX) C "together"/\L2.bG (L2.KOf KX) C "floors"/\L2.bG (L2.KOf KX) C "taxes"/\L2.bG (L2.KOf KX) C "percents"/\L2.bG (L2.KOf KX) C "unit"/\L2.bG (L2.KOf KX) C "journey" :=by
   dsimp only [L2.KOf,L2.bG]
   refine' ⟨_,Lf.acd KX G ?a_3 ?i_3 ?f_3 ?l_3 ?c_3 ?k_3 ?pg_3 ?hd_3 ?po_3 ?sa_3 ?mk_3 ?kc_3 ?b_3,?n0_3,?n1_3,?n2_3,?n3_3,?n4_3,?n5_3,?n6_3⟩
   (case a_3=>k_is);(case i_3=>k_is);(case f_3=>k_is);(case l_3=>k_is);(case c_3=>k_is);(case k_3=>k_is);(case pg_3=>k_is);(case hd_3=>k_is);(case po_3=>k_is);(case sa_3=>k_is);(case mk_3=>k_is);(case kc_3=>k_is);(case b_3=>exact λ_ _ _ _ _ _=>Lf.ar1 λ_=>rfl)
   all_goals k_is
  obtain ⟨cComponent,hComponent⟩: ∃C,Lf.Dc (L2.KOf KX) mg "Component" "Component.__init__" (L2.inClass (Lf.top 41) 0) C ["self","house","first","last"]/\L2.bG (L2.KOf KX) C "first"/\L2.bG (L2.KOf KX) C "last"/\L2.bG (L2.KOf KX) C "segments"/\L2.bG (L2.KOf KX) C "origin"/\L2.bG (L2.KOf KX) C "target"/\L2.bG (L2.KOf KX) C "day"/\L2.bG (L2.KOf KX) C "days_left"/\L2.bG (L2.KOf KX) C "floor" :=by
   dsimp only [L2.KOf,L2.bG]
   refine' ⟨_,Lf.acd KX G ?a_4 ?i_4 ?f_4 ?l_4 ?c_4 ?k_4 ?pg_4 ?hd_4 ?po_4 ?sa_4 ?mk_4 ?kc_4 ?b_4,?n0_4,?n1_4,?n2_4,?n3_4,?n4_4,?n5_4,?n6_4,?n7_4⟩
   (case a_4=>k_is);(case i_4=>k_is);(case f_4=>k_is);(case l_4=>k_is);(case c_4=>k_is);(case k_4=>k_is);(case pg_4=>k_is);(case hd_4=>k_is);(case po_4=>k_is);(case sa_4=>k_is);(case mk_4=>k_is);(case kc_4=>k_is);(case b_4=>exact λ_ _ _ _ _ _=>Lf.ar4 λ_ _ _ _=>rfl)
   all_goals k_is
  obtain ⟨cOffers,hOffers⟩: ∃C,Lf.Dc (L2.KOf KX) mg "Offers" "Offers.__init__" (L2.inClass (Lf.top 42) 0) C ["self","house","kind","component"]/\L2.bG (L2.KOf KX) C "component"/\L2.bG (L2.KOf KX) C "singles"/\L2.bG (L2.KOf KX) C "outs"/\L2.bG (L2.KOf KX) C "homes" :=by
   dsimp only [L2.KOf,L2.bG]
   refine' ⟨_,Lf.acd KX G ?a_5 ?i_5 ?f_5 ?l_5 ?c_5 ?k_5 ?pg_5 ?hd_5 ?po_5 ?sa_5 ?mk_5 ?kc_5 ?b_5,?n0_5,?n1_5,?n2_5,?n3_5⟩
   (case a_5=>k_is);(case i_5=>k_is);(case f_5=>k_is);(case l_5=>k_is);(case c_5=>k_is);(case k_5=>k_is);(case pg_5=>k_is);(case hd_5=>k_is);(case po_5=>k_is);(case sa_5=>k_is);(case mk_5=>k_is);(case kc_5=>k_is);(case b_5=>exact λ_ _ _ _ _ _=>Lf.ar4 λ_ _ _ _=>rfl)
   all_goals k_is
  obtain ⟨cChoice,hChoice⟩: ∃C,Lf.Dc (L2.KOf KX) mg "Choice" "Choice.__init__" (L2.inClass (Lf.top 85) 0) C ["self","paid","parts"]/\L2.bG (L2.KOf KX) C "paid"/\L2.bG (L2.KOf KX) C "parts"/\L2.bG (L2.KOf KX) C "covers" :=by
   dsimp only [L2.KOf,L2.bG]
   refine' ⟨_,Lf.acd KX G ?a_6 ?i_6 ?f_6 ?l_6 ?c_6 ?k_6 ?pg_6 ?hd_6 ?po_6 ?sa_6 ?mk_6 ?kc_6 ?b_6,?n0_6,?n1_6,?n2_6⟩
   (case a_6=>k_is);(case i_6=>k_is);(case f_6=>k_is);(case l_6=>k_is);(case c_6=>k_is);(case k_6=>k_is);(case pg_6=>k_is);(case hd_6=>k_is);(case po_6=>k_is);(case sa_6=>k_is);(case mk_6=>k_is);(case kc_6=>k_is);(case b_6=>exact λ_ _ _ _ _ _=>Lf.ar3 λ_ _ _=>rfl)
   all_goals k_is
  have ks:Lf.Ks (L2.KOf KX) mg ⟨cFare,cSegment,cJourney,cHouse,cComponent,cOffers,cChoice⟩:=⟨hFare.1,hSegment.1,hJourney.1,hHouse.1,hComponent.1,hOffers.1,hChoice.1,hFare.2.1,hFare.2.2.1,hFare.2.2.2.1,hFare.2.2.2.2.1,hFare.2.2.2.2.2.1,hFare.2.2.2.2.2.2.1,hFare.2.2.2.2.2.2.2.1,hFare.2.2.2.2.2.2.2.2.1,hFare.2.2.2.2.2.2.2.2.2.1,hFare.2.2.2.2.2.2.2.2.2.2.1,hFare.2.2.2.2.2.2.2.2.2.2.2.1,hFare.2.2.2.2.2.2.2.2.2.2.2.2.1,hFare.2.2.2.2.2.2.2.2.2.2.2.2.2.1,hFare.2.2.2.2.2.2.2.2.2.2.2.2.2.2.1,hFare.2.2.2.2.2.2.2.2.2.2.2.2.2.2.2.1,hFare.2.2.2.2.2.2.2.2.2.2.2.2.2.2.2.2,hSegment.2.1,hSegment.2.2.1,hSegment.2.2.2.1,hSegment.2.2.2.2.1,hSegment.2.2.2.2.2.1,hSegment.2.2.2.2.2.2,hJourney.2.1,hJourney.2.2,hHouse.2.1,hHouse.2.2.1,hHouse.2.2.2.1,hHouse.2.2.2.2.1,hHouse.2.2.2.2.2.1,hHouse.2.2.2.2.2.2.1,hHouse.2.2.2.2.2.2.2,hComponent.2.1,hComponent.2.2.1,hComponent.2.2.2.1,hComponent.2.2.2.2.1,hComponent.2.2.2.2.2.1,hComponent.2.2.2.2.2.2.1,hComponent.2.2.2.2.2.2.2.1,hComponent.2.2.2.2.2.2.2.2,hOffers.2.1,hOffers.2.2.1,hOffers.2.2.2.1,hOffers.2.2.2.2,hChoice.2.1,hChoice.2.2.1,hChoice.2.2.2⟩
  have nums: ∃a,mg "NUMBERS" =some (.ref a)/\Lf.vq (L2.KOf KX) (.ref a)=some Lf.tL:=by
   dsimp only [L2.KOf]
   refine' Lf.Y8 KX G ?aN ?bN
   (case aN=>k_is)
   (case bN=>kernel_rfl)
  have rws:Lf.Qr PySem.Challenge.rw_leastfares_s01_answers.prog w (L2.KOf KX) mg:=by
   dsimp only [L2.KOf]
   refine' Lf.Xi KX G ?aR ?lR ?c1R ?c2R ?c3R ?c4R ?e7R ?e9R ?e12R ?f7R ?f9R ?f12R
   (case aR=>k_is);(case lR=>k_is);(case c1R=>rfl);(case c2R=>rfl);(case c3R=>rfl);(case c4R=>decide);(case e7R=>rfl);(case e9R=>rfl);(case e12R=>rfl);(case f7R=>kernel_rfl);(case f9R=>kernel_rfl);(case f12R=>kernel_rfl)
  have tCHANGES:Lf.sj (L2.KOf KX) mg:=by
   dsimp only [L2.KOf]
   refine' Lf.Rt KX G ?a_8 ?l_8 ?c_8 ?e0_8 ?e1_8 ?e2_8 ?e3_8 ?e4_8 ?e5_8 ?e6_8 ?e7_8
   (case a_8=>k_is);(case l_8=>k_is);(case c_8=>rfl)
   all_goals k_is
  have tQUESTIONS:Lf.nN (L2.KOf KX) mg:=by
   dsimp only [L2.KOf]
   refine' Lf.Oj KX G ?a_9 ?l_9 ?c_9 ?e0_9 ?e1_9 ?e2_9 ?e3_9 ?e4_9 ?e5_9 ?e6_9 ?e7_9 ?e8_9 ?e9_9
   (case a_9=>k_is);(case l_9=>k_is);(case c_9=>rfl)
   all_goals k_is
  exact Lf.Yr ⟨bl,cs,ds,ks,nums,rws,tCHANGES,tQUESTIONS⟩ hmg
 case S=>
  intro K H xs a hO RN hask hx
  cases hx with
  |cons h1 h2=>
   cases h2
   cases h1 with
   |lst hs ha=>
    have e:=L2.Ot a.1 _ ha
    subst e
    obtain ⟨cs,r1,_,r2,r3,r4⟩:=Lf.Qp (l:=a.1) hask
    refine ⟨_,a.1,cs,rfl,hs,r1,r2,r3,λH' la hla=>?_⟩
    show L2.Dw K H' (.ref la) (.list ((PyVbahaf.answers a.1).map .int))
    rw [r4]
    exact .lst (L2.iL.of hla) (L2.O2 _)
