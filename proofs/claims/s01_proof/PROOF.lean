import PyProof.Rows.All
import Wide.All
import OpenK.AllK
import Wide.FinOn
import PyProof.EqAt
import PyProof.EqKinds
import PyProof.TupleCall
import KE.BitLaws
import Open.SpecLaws
import KE.OsHead
import KE.OsGo
import KE.KDictSum
import KE.KSortTupG
import PyProof.DictList
import PyProof.DictRoadsH
import PyProof.MeetsDictList
import PyProof.MinMaxWalk
import PyProof.NeKinds
import PyProof.RaisesDict
import PyProof.Rows.SeqJoint
import PyProof.Rows.TupIn
import PyProof.WalkInts
import PySem.Challenge.RW_leastfares_s01_answers
set_option Elab.async false
set_option linter.all false
set_option maxRecDepth 100000
set_option maxHeartbeats 4000000
open Array renaming getElem?_toList->gr,length_toList->g6,toList->Rm
open BitVec renaming ofNat->O2,toNat_ofNat->j5
open Bool renaming and_assoc->yx,and_eq_false_iff->jc,and_eq_true->aU,and_eq_true_iff->pA,and_false->fK,and_true->cV,eq_iff_iff->aX,false_and->pz,false_eq_true->bN,false_ne_true->aJ,false_or->rf,noConfusion->cB,not_eq_false->lP,not_eq_false'->im,not_eq_true'->fq,or_eq_true->wN,or_false->re,true_and->eN,true_or->RV
open Classical renaming em->Lu
open False renaming elim->dj
open ForInStep renaming yield->lV
open Int renaming add_comm->tQ,fdiv_eq_ediv_of_nonneg->zV,le_refl->wM,one_mul->WJ,toNat_natCast->LW,zero_add->oy
open List renaming Nodup->WI,all_append->il,all_cons->gq,all_eq_false->iJ,all_eq_true->bJ,all_map->ng,any_cons->Ab,any_eq_true->gS,append_assoc->cq,append_nil->di,cons_append->LV,contains_iff_mem->eW,dropLast_concat_getLast->jH,drop_eq_getElem_cons->g5,drop_eq_nil_of_le->iI,drop_length->LU,eq_nil_iff_forall_not_mem->dP,eq_nil_of_length_eq_zero->d4,eraseIdx_cons_succ->Cn,ext_getElem?->Ls,filterMap_append->i8,filterMap_cons->db,filterMap_map->Ie,filter_append->dq,filter_congr->iH,filter_cons->bw,filter_cons_of_neg->Cm,filter_cons_of_pos->Ck,filter_eq_self->j2,filter_map->ik,filter_sublist->qi,find?_cons->ij,find?_cons_of_neg->iG,find?_cons_of_pos->nc,find?_eq_none->dO,find?_some->gk,flatMap_append->cc,flatMap_cons->bB,flatMap_map->ul,flatMap_nil->uk,flatten_cons->lO,foldl->Ic,foldl_append->Lr,foldl_cons->ox,forIn_nil->O1,getD_eq_getElem?_getD->bj,getElem?_append_left->bV,getElem?_append_right->cA,getElem?_cons_succ->Cj,getElem?_cons_zero->Ch,getElem?_drop->rq,getElem?_eq_getElem->ao,getElem?_eq_none->Em,getElem?_eq_none_iff->kS,getElem?_eq_some_iff->aK,getElem?_inj->sT,getElem?_map->br,getElem?_of_mem->gN,getElem?_range->hW,getElem?_set_ne->pq,getElem?_set_self->m9,getElem?_zip_eq_some->cf,getElem_mem->uj,length->wx,length_append->aL,length_cons->aR,length_drop->mT,length_eq_zero_iff->iz,length_filter_le->aN,length_filter_lt_length_iff_exists->gI,length_map->ab,length_nil->cU,length_pos_iff->j1,length_range->bZ,length_set->wL,length_singleton->gu,length_take->bc,length_zip->eA,lookup->fW,lookup_cons->fJ,map_append->aO,map_congr_left->bP,map_cons->be,map_drop->Rl,map_eq_nil_iff->qh,map_flatMap->ui,map_fst_zip->uh,map_id->ww,map_map->bm,map_nil->gR,map_take->Rk,mem_append->bG,mem_append_left->cT,mem_append_right->cJ,mem_cons->aD,mem_cons_of_mem->aF,mem_cons_self->aM,mem_filter->au,mem_filterMap->bU,mem_flatMap->aW,mem_iff_getElem?->dL,mem_map->aj,mem_of_find?_eq_some->cZ,mem_of_getElem?->aI,mem_of_mem_take->FT,mem_range->bE,mem_singleton->aP,mergeSort_perm->HS,nil_append->wK,nodup_append->gH,nodup_cons->bo,nodup_nil->eT,nodup_range->ug,not_mem_nil->gQ,of_mem_zip->wJ,pairwise_cons->dm,pairwise_map->dE,pairwise_mergeSort->Cg,perm_append_comm->oY,perm_middle->jf,range->bb,range_succ->eh,replicate->cS,replicate_succ->hU,size_toArray->bf,sum_append->N6,sum_cons->fB,take_append_drop->oX,take_length->bq,take_of_length_le->cp,zip_cons_cons->rp
open List.Pairwise renaming filter->Vs,nil->Vr
open List.Perm renaming cons->mZ,map->Ig,of_eq->jb,refl->mY,swap->tP,trans->i9
open List.Sublist renaming map->WH
open List.cons renaming inj->fS,injEq->eU
open List.range renaming loop->bS
open Nat renaming add_le_add_left->Ib,add_zero->ow,and_le_right->N5,eq_of_testBit_eq->jC,exists_testBit_of_ne_zero->wI,ge_two_pow_of_testBit->Aa,le_add_right->dU,le_of_eq->tO,le_of_lt->j8,le_of_succ_le->lU,le_refl->ay,le_succ->lT,le_trans->aV,lt_irrefl->dW,lt_of_le_of_lt->cy,lt_of_lt_of_le->bu,lt_succ_of_lt->lS,lt_succ_self->fP,lt_trans->ou,lt_two_pow_self->rc,min_le_left->oW,min_le_right->du,min_self->tN,mod_eq_of_lt->jk,mul_le_mul_right->HR,ne_of_gt->gZ,ne_of_lt->bH,not_lt_zero->eC,one_le_two_pow->Lq,pow_le_pow_right->d6,pow_lt_pow_right->jB,pow_succ->Vq,sub_add_cancel->Lp,sub_self->tM,succ_mul->tL,succ_ne_self->wv,testBit_and->xr,testBit_or->zU,testBit_two_pow_sub_one->yw,testBit_xor->xq,two_pow_pos->fk,zero_le->bv,zero_or->WG,zero_testBit->jj
open Ne renaming symm->fz
open Option renaming getD_none->Ia,isNone_none->FS,isSome_iff_exists->yu,isSome_map->rn,isSome_some->ic,map_eq_some_iff->z9,map_none->Lo,map_some->dg,none->Rj,none_or->LS
open Option.some renaming inj->bx,injEq->fR
open Or renaming inl->LQ,inr->FR
open Prod.mk renaming inj->gG,injEq->gY
open PyFlat renaming call->Cz,calls->mS,played->i7,row->RU,rows->Cy,told->je
open PyProof.Rows renaming Call_->WF,boot_all->wu,boot_list->uf,boot_max->WE,boot_min->ii,boot_sorted->jG,boot_sum->ig,callWith_builtin1->WD,callWith_type1->de,lexLt->m8,lt_int->WC
open PyProof renaming noPylong_small->zT
open PySem renaming Around->adW,BindsTo->aeF,Builtin->ad9,DictEntry->aeL,Expr->adS,FuncData->ad7,Heap->adO,IsEnum->aee,IsRangeIter->aeZ,Keyword->aed,NameKind->ad8,Params->aem,Program->adT,PyData->aek,Scope->ad1,Shared->adN,Stmt->adZ,Within->Cf,World->adQ,argBest->ad5,argsOk->ael,assignEach->aep,atKey->aeb,attributeBase->aeg,backTo->ad2,backToKw->aeq,behindInMarks->aej,binaryOp->aec,bootBuiltins->aeD,boot_len->xp,cLine->ad0,call->Vh,callWith->aeT,call_meets->aeR,call_meetsIn->aeJ,callerA->aeN,cellsFrom->ad3,checkBuiltinCall->afa,codeAny_builtin->aeB,codeAny_call_builtin->ae9,codeAny_mono->aey,compEnvC->aea,compareOp->ad6,evalArgs_none->qd,foldedSetIterable->ae0,getItem->aeG,hashInt->aeu,holding->aeE,keywordEach->aer,letOwnedTupleGo->aeY,mainGlobals->adX,mem_of_lookup->bO,model->adR,notedBy->aeH,plainId_quiet->aet,pushCells->aes,pushCells_keeps->ae3,pyNext->aef,richCompare->aeP,sizeLine_eq->adY,size_of_entries->ae7,sliceBounds->aeA,starEach->adU,subscripted->ae2,swapsWith->aeo,sysModules->ad4,tupleKind->aev,tupleKind_room_in1->aeI,typeIs_int->aeQ,valueAt->aei,wpAny_Call_Name_kw->aez,wpAny_Call_method->aeK,wpAny_bind->adP,wpAny_call->ae1,wpAny_callSpecial?_slot->afc,wpAny_call_entry->afd,wpAny_dictEntries->afb,wpAny_execs_nil->aeX,wpAny_field->aeM,wpAny_holding->aeh,wpAny_letGo->aeC,wpAny_letOwnedTupleGo_enum->afe,wpAny_missedRemoval_other->aff,wpAny_newObj_type->aeS,wpAny_of_eq->ae6,wpAny_passesOwn->aew,wpAny_pure->adV,wpAny_pyIter_enum->ae4,wpAny_pyIter_list->aex,wpAny_rule->aeV,wpAny_seqItems->ae5,wpAny_setField_rec->aeW,wpAny_standAt->aeO,wpAny_truthy_bool->aen,wpAny_tryCatch->aeU,wpAny_updateSeq->ae8
open PySem.Challenge renaming pw_leastfares_s01_answers->Ri
open PySem.EqMixed renaming eq_bool_str->Vp,eq_int_str->Vo,eq_str_bool->Vn,eq_str_int->Vm,ne_bool_str->Vl,ne_int_str->Vk,ne_str_bool->Vj,ne_str_int->Vi
open PySem.EqNone renaming eq_bool_none->WB,eq_int_none->WA,eq_none_bool->Wz,eq_none_int->Wy,eq_none_none->Wx,eq_none_str->Ww,eq_str_none->Wv,ne_bool_none->Wu,ne_int_none->Wt,ne_none_bool->Ws,ne_none_int->Wr,ne_none_none->Wq,ne_none_str->Wp,ne_str_none->Wo
open PySem.F renaming args_dict_get_3->yt,args_dict_pop_3->lN,entry_dict_get->zS,entry_dict_pop->mz,entry_min->rb,entry_min_loop->iy,kind_min->sn,plainAttrs_dict->ib,plainAttrs_list->lM,plain_min->ra,plain_min_loop->ci,slot_dict_get->mX,slot_dict_getitem->wH,slot_dict_pop->eQ,type_dict_pop->mW
open PySem.W renaming Frag->aa,WRecords->HP,WalkOS->Ln,callWith_K->qe,cellsFrom_some->zR,codeIn->j0,emptyDict->dC,findIn->eM,fnOf->fe,handedIn->HN,hasDictIn->kz,instObj->eY,isFn->N4,keepIn->eL,length_le_weightAllW->tK,lookIn->wt,makesIn->tJ,methodObj->q5,mg_of->bD,nsIn->bM,plainGet->lL,plainOver->qZ,takerIn->tI
open PySem.Within renaming cons->Wn
open Sum renaming inl->az,inr->tH
open Sum.inl renaming inj->cY,injEq->kR
open True renaming intro->fy
open Vbahaf renaming Comp->cG,Fare->aq,Journey->ai,MONEY->df,Seg->bT,Span->cQ,State->ag,airportIn->bY,cut->mR,dayIn->cz,fareIn->yr,fareNumbers->j4,keyIn->cj,kindIn->cw,pairsSorted->FQ,pay->RT,placeIn8->cR,rows->Cw,segIn->iA,segsOf->yq,single->N3,start->eG,stepRows->jq,threes->qc,within->cC
open VbahafNeutral renaming asked->wG,asked1->lK,row->yp,start->Vg,step->fu
namespace Lf
open Vbahaf
abbrev Un:=Span×Option Span
def jh (c:Span) (i:Nat):Bool:=decide (c.1<=i)&&decide (i<c.2)
def mV (u:Un) (i:Nat):Bool:=jh u.1 i||(match u.2 with
 |some q=>jh q i
 |none=>false)
def HG (u:Un):Prop:=u.1.1<u.1.2/\∀q,u.2=some q->u.1.2<=q.1/\q.1<q.2
def Sv (u:Un):List Span:=match u.2 with
 |some q=> [u.1,q]
 |none=> [u.1]
def Tiled:(Nat->Bool)->List Un->Prop
 |M,[]=> ∀i,M i=false
 |M,u::l=>HG u/\(∀i,i<u.1.1->M i=false)/\(∀i,mV u i=true->M i=true)/\Tiled (λi=>M i&&!mV u i) l
def lH:(Nat->Bool)->List Span->Prop
 |M,[]=> ∀i,M i=false
 |M,c::r=>c.1<c.2/\(∀i,i<c.1->M i=false)/\(∀i,jh c i=true->M i=true)/\lH (λi=>M i&&!jh c i) r
inductive i5:List Span->List Un->Prop
 |nil:i5 [] []
 |one {x r l}:i5 r l->i5 (x::r) ((x,none)::l)
 |two {x r y r' l}:(y,r')∈picks r->i5 r' l->i5 (x::r) ((x,some y)::l)
def cW {c:Span} {i:Nat}:jh c i=true↔c.1<=i/\i<c.2:=by
 unfold jh;simp
def gF {c:Span} {i:Nat}:jh c i=false↔¬(c.1<=i/\i<c.2):=by
 rw [<-cW];simp
def Zp (a b c:Bool):((a&&!b)&&!c)=((a&&!c)&&!b):=by cases a<;>cases b<;>cases c<;>rfl
def or3 (a b c:Bool):(a&&!(b||c))=((a&&!b)&&!c):=by cases a<;>cases b<;>cases c<;>rfl
def lH.congr: ∀{cs:List Span} {M N:Nat->Bool},(∀i,M i=N i)->lH M cs->lH N cs
 |_,M,N,h,c=>by
  have e:M=N:=funext h;rw [<-e];exact c
def Tiled.congr {us:List Un} {M N:Nat->Bool} (h: ∀i,M i=N i) (c:Tiled M us):Tiled N us:=by
 have e:M=N:=funext h;rw [<-e];exact c
def lH.mem: ∀{cs:List Span} {M:Nat->Bool},lH M cs->∀c∈cs,c.1<c.2/\∀i,jh c i=true->M i=true
 | [],_,_,c,h=>by cases h
 |d::r,M,⟨h1,_,h3,h4⟩,c,h=>by
  rcases aD.mp h with rfl|h
  ·exact ⟨h1,h3⟩
  ·obtain ⟨g1,g2⟩:=lH.mem h4 c h;refine ⟨g1,λi hi=>?_⟩;have:=g2 i hi;simp only [aU] at this;exact this.1
def lH.zr {c:Span} {r:List Span} {M:Nat->Bool} (h:lH M (c::r)): ∀d∈r,c.2<=d.1:=by
 intro d hd;obtain ⟨h1,h2,h3,h4⟩:=h;obtain ⟨g1,g2⟩:=h4.mem d hd;have:=g2 d.1 (cW.mpr ⟨ay _,g1⟩);simp only [aU,fq] at this;obtain ⟨a,b⟩:=this;rw [gF] at b;have: ¬d.1<c.1:=λz=>by rw [h2 d.1 z] at a;cases a
 omega
def lH.sorted: ∀{cs:List Span} {M:Nat->Bool},lH M cs->cs.Pairwise (λa b=>a.1<b.1)
 | [],_,_=> .nil
 |c::r,M,h=>by
  refine dm.mpr ⟨λd hd=>?_,lH.sorted h.2.2.2⟩;have:=h.zr d hd;have:=h.1;omega
def lH.pick: ∀{r r':List Span} {y:Span} {M:Nat->Bool},lH M r->(y,r')∈picks r->lH (λi=>M i&&!jh y i) r':=by
 intro r;induction r with
 |nil=>intro r' y M _ h;cases h
 |cons c r ih=>
  intro r' y M h hp;unfold picks at hp;rcases aD.mp hp with e|hp
  ·cases e;exact h.2.2.2
  ·obtain ⟨⟨z,t⟩,hz,e⟩:=aj.mp hp;cases e;have hy: ∀{z t} {r:List Span},(z,t)∈picks r->z∈r:=by
    intro z t r;induction r generalizing z t with
    |nil=>intro h;cases h
    |cons a r XJ=>
     intro h;unfold picks at h;rcases aD.mp h with e|h
     ·cases e;exact aM
     ·obtain ⟨⟨z',t'⟩,VI,e⟩:=aj.mp h;cases e;exact aF _ (XJ VI)
   have JQ:=hy hz;have jd:=h.zr _ JQ;obtain ⟨h1,h2,h3,h4⟩:=h;refine ⟨h1,λi hi=>by show (M i&&_)=false;rw [h2 i hi];rfl,λi hi=>?_,?_⟩
   ·show (M i&&!jh z i)=true;rw [h3 i hi,eN];rw [cW] at hi;simp only [fq,gF];omega
   ·exact lH.congr (λi=>Zp _ _ _) (ih h4 hz)
def lj {α:Type}: ∀{r:List α} {z:α} {t:List α},(z,t)∈picks r->z∈r/\(z::t).Perm r
 | [],_,_,h=>by cases h
 |a::r,z,t,h=>by
  unfold picks at h;rcases aD.mp h with e|h
  ·cases e;exact ⟨aM, .refl _⟩
  ·obtain ⟨⟨z',t'⟩,VI,e⟩:=aj.mp h;cases e;obtain ⟨m,p⟩:=lj VI;exact ⟨aF _ m,(tP _ _ _).trans (p.cons _)⟩
def i5.R1: ∀{cs:List Span} {us:List Un},i5 cs us->∀{M:Nat->Bool},lH M cs->Tiled M us:=by
 intro cs us h;induction h with
 |nil=>intro M c;exact c
 | @one x r l _ ih=>
  intro M c;refine ⟨⟨c.1,λq hq=>by cases hq⟩,c.2.1,λi hi=>c.2.2.1 i (by unfold mV at hi;simpa using hi),?_⟩;exact (ih c.2.2.2).congr λi=>by simp [mV]
 | @two x r y r' l hp _ ih=>
  intro M c;obtain ⟨hm,_⟩:=lj hp;have jd:=c.zr y hm;obtain ⟨g1,g2⟩:=c.2.2.2.mem y hm;refine ⟨⟨c.1,λq hq=>by cases hq;exact ⟨jd,g1⟩⟩,c.2.1,λi hi=>?_,?_⟩
  ·unfold mV at hi;simp only [wN] at hi;rcases hi with hi|hi
   ·exact c.2.2.1 i hi
   ·have:=g2 i hi;simp only [aU] at this;exact this.1
  ·refine (ih (c.2.2.2.pick hp)).congr λi=>?_;exact (or3 _ _ _).symm
def lH.put: ∀{r':List Span} {y:Span} {M:Nat->Bool},lH (λi=>M i&&!jh y i) r'->y.1<y.2->(∀i,jh y i=true->M i=true)->
  ∃r,(y,r')∈picks r/\lH M r:=by
 intro r';induction r' with
 |nil=>
  intro y M h hy hM;refine ⟨[y],by unfold picks;exact aM,hy,λi hi=>?_,hM,h⟩;have e:=h i;simp only [jc,im] at e;rcases e with e|e
  ·exact e
  ·rw [cW] at e;omega
 |cons c r ih=>
  intro y M h hy hM;obtain ⟨h1,h2,h3,h4⟩:=h;have YK: ∀i,jh c i=true->M i=true/\jh y i=false:=λi hi=>by
   have:=h3 i hi;simpa using this
  by_cases hc:y.1<c.1
  ·refine ⟨y::c::r,by unfold picks;exact aM,hy,λi hi=>?_,hM,h1,h2,h3,h4⟩;have e:=h2 i (by omega);simp only [jc,im] at e;rcases e with e|e
   ·exact e
   ·rw [cW] at e;omega
  ·have gp:c.2<=y.1:=by
    have:=(YK c.1 (cW.mpr ⟨ay _,h1⟩)).2;rw [gF] at this;have z: ¬(c.1<=y.1/\y.1<c.2):=λz=>by
     have:=(YK y.1 (cW.mpr z)).2;rw [gF] at this;omega
    omega
   obtain ⟨t,ht,YC⟩:=ih (y:=y) (M:=λi=>M i&&!jh c i) (lH.congr (λi=>Zp _ _ _) h4) hy (λi hi=>by
      show (M i&&!jh c i)=true;rw [hM i hi,eN];rw [cW] at hi;simp only [fq,gF];omega)
   refine ⟨c::t,?_,h1,λi hi=>?_,λi hi=>(YK i hi).1,YC⟩
   ·unfold picks;exact aF _ (aj.mpr ⟨(y,r),ht,rfl⟩)
   ·have e:=h2 i hi;simp only [jc,im] at e;rcases e with e|e
    ·exact e
    ·rw [cW] at e;omega
def lH.front {r:List Span} {x:Span} {M:Nat->Bool} (h:lH (λi=>M i&&!jh x i) r) (hx:x.1<x.2) (h0: ∀i,i<x.1->M i=false) (hM: ∀i,jh x i=true->M i=true):lH M (x::r):=
 ⟨hx,h0,hM,h⟩
def Tiled.A3: ∀{us:List Un} {M:Nat->Bool},Tiled M us->∃cs,lH M cs/\i5 cs us
 | [],M,h=>⟨[],h, .nil⟩
 |(x,none)::l,M,⟨h1,h2,h3,h4⟩=>by
  obtain ⟨cs,c,p⟩:=Tiled.A3 h4;refine ⟨x::cs,lH.front (lH.congr (λi=>by simp [mV]) c) h1.1 h2 (λi hi=>h3 i (by unfold mV;simp [hi])), .one p⟩
 |(x,some y)::l,M,⟨h1,h2,h3,h4⟩=>by
  obtain ⟨cs,c,p⟩:=Tiled.A3 h4;obtain ⟨k1,k2⟩:=h1.2 y rfl;obtain ⟨r,hr,hc⟩:=lH.put (M:=λi=>M i&&!jh x i) (y:=y) (r':=cs) (lH.congr (λi=>or3 _ _ _) c) k2 (λi hi=>by
    show (M i&&!jh x i)=true;rw [h3 i (by unfold mV;simp [hi]),eN];rw [cW] at hi;simp only [fq,gF];have k1':x.2<=y.1:=k1;omega)
  exact ⟨x::r,lH.front hc h1.1 h2 (λi hi=>h3 i (by unfold mV;simp [hi])), .two hr p⟩
def IF (us:List Un):List Span:=us.flatMap Sv
def i5.perm {cs:List Span} {us:List Un} (h:i5 cs us):(IF us).Perm cs:=by
 induction h with
 |nil=>exact .refl _
 |one _ ih=>exact ih.cons _
 |two hp _ ih=>exact ((ih.cons _).trans (lj hp).2).cons _
def wU: ∀{a b:List Span},a.Perm b->a.Pairwise (λx y=>x.1<y.1)->b.Pairwise (λx y=>x.1<y.1)->a=b
 |a,b,p,ha,hb=>p.eq_of_pairwise (le:=λx y:Span=>x.1<y.1) (λx y _ _ h1 h2=>absurd h1 (by omega)) ha hb
def i5.unique {M N:Nat->Bool} {cs ds:List Span} {us:List Un} (h:i5 cs us) (k:i5 ds us) (hc:lH M cs) (hd:lH N ds):cs=ds:=
 wU (h.perm.symm.trans k.perm) hc.sorted hd.sorted
end Lf
namespace Lf
open Vbahaf
def yX (i n:Nat):Nat->Bool:=λx=>decide (i<=x)&&decide (x<n)
def jx {i n x:Nat}:yX i n x=true↔i<=x/\x<n:=by unfold yX;simp
def k8 {i n x:Nat}:yX i n x=false↔¬(i<=x/\x<n):=by rw [<-jx];simp
def yW {i e n x:Nat} (h:i<e) (_h2:e<=n):(yX i n x&&!jh (i,e) x)=yX e n x:=by
 rw [aX];simp only [aU,fq,jx,gF];omega
def eZ {n:Nat}: ∀{k i:Nat} {cs:List Span},n-i<k->(cs∈cuttings n k i↔lH (yX i n) cs)
 |0,i,cs,h=>absurd h (eC _)
 |k+1,i,cs,h=>by
  unfold cuttings;by_cases hn:n<=i
  ·rw [if_pos hn];constructor
   ·intro m;obtain rfl:=aP.mp m;intro x;rw [k8];omega
   ·intro c;cases cs with
    |nil=>exact aP.mpr rfl
    |cons c' r=>
     have:=c.2.2.1 c'.1 (cW.mpr ⟨ay _,c.1⟩);rw [jx] at this;omega
  ·rw [if_neg hn];constructor
   ·intro m;obtain ⟨e,he,m⟩:=aW.mp m;obtain ⟨VZ,Qw⟩:=au.mp he;obtain ⟨l,hl,rfl⟩:=aj.mp m;have h1:e<n+1:=bE.mp VZ;have h2:i<e:=by simpa using Qw
    have:=(eZ (k:=k) (i:=e) (cs:=l) (by omega)).mp hl;refine ⟨h2,λx hx=>by rw [k8];simp only at hx;omega,λx hx=>?_,lH.congr (λx=>(yW h2 (by omega)).symm) this⟩;rw [cW] at hx;rw [jx];simp only at hx;omega
   ·intro c;cases cs with
    |nil=>
     have:=c i;rw [k8] at this;omega
    |cons c' r=>
     obtain ⟨b,e⟩:=c';obtain ⟨h1,h2,h3,h4⟩:=c;simp only at h1 h2;have hb:b=i:=by
      have a1:=h3 b (cW.mpr ⟨ay _,h1⟩);rw [jx] at a1;have: ¬i<b:=λz=>by
       have:=h2 i z;rw [k8] at this;omega
      omega
     subst hb;have he:e<=n:=by
      have a1:=h3 (e-1) (cW.mpr ⟨by simp only;omega,by simp only;omega⟩);rw [jx] at a1;omega
     refine aW.mpr ⟨e,au.mpr ⟨bE.mpr (by omega),by simpa using h1⟩,aj.mpr ⟨r,?_,rfl⟩⟩;exact (eZ (k:=k) (i:=e) (cs:=r) (by omega)).mpr (lH.congr (λx=>yW h1 he) h4)
def gU {α β:Type} {f:α->List β}: ∀{l:List α},l.Nodup->(∀a∈l,(f a).Nodup)->(∀a∈l, ∀b∈l, ∀x,x∈f a->x∈f b->a=b)->(l.flatMap f).Nodup
 | [],_,_,_=>by simp
 |a::l,h,h1,h2=>by
  rw [bB];obtain ⟨ha,hl⟩:=bo.mp h;refine gH.mpr ⟨h1 a aM,gU hl (λb hb=>h1 b (aF _ hb)) (λb hb c hc=>h2 b (aF _ hb) c (aF _ hc)),λx hx y hy e=>?_⟩;subst e;obtain ⟨b,hb,hxb⟩:=aW.mp hy;exact ha (h2 a aM b (aF _ hb) x hx hxb▸hb)
def jE {α β:Type} {f:α->β} (hf: ∀a b,f a=f b->a=b): ∀{l:List α},l.Nodup->(l.map f).Nodup
 | [],_=>by simp
 |a::l,h=>by
  obtain ⟨ha,hl⟩:=bo.mp h;rw [be];refine bo.mpr ⟨λm=>?_,jE hf hl⟩;obtain ⟨b,hb,e⟩:=aj.mp m;exact ha (hf b a e▸hb)
def nE (n:Nat): ∀(k i:Nat),(cuttings n k i).Nodup
 |0,i=>by unfold cuttings;simp
 |k+1,i=>by
  unfold cuttings;by_cases hn:n<=i
  ·rw [if_pos hn];simp
  ·rw [if_neg hn];refine gU (ug.filter _) (λe _=>jE (λa b h=>(fS h).2) (nE n k e)) (λa _ b _ x hx hy=>?_);obtain ⟨l,_,rfl⟩:=aj.mp hx;obtain ⟨l',_,e⟩:=aj.mp hy;have:=(fS e).1;injection this with _ h2;exact h2.symm
def xL {α:Type}: ∀{r:List α} {z:α} {t:List α},(z,t)∈picks r->t.length+1=r.length:=λh=>by
 have:=(lj h).2.length_eq;simpa using this
def eB: ∀{k:Nat} {cs:List Span} {us:List Un},cs.length<=k->(us∈pairings k cs↔i5 cs us)
 |0,cs,us,h=>by
  have e:cs= []:=iz.mp (Nat.le_zero.mp h);subst e;unfold pairings;constructor
  ·intro m;obtain rfl:=aP.mp m;exact .nil
  ·intro p;cases p;exact aP.mpr rfl
 |k+1,[],us,h=>by
  unfold pairings;constructor
  ·intro m;obtain rfl:=aP.mp m;exact .nil
  ·intro p;cases p;exact aP.mpr rfl
 |k+1,x::r,us,h=>by
  unfold pairings;have hr:r.length<=k:=by simpa using h
  constructor
  ·intro m;rcases bG.mp m with m|m
   ·obtain ⟨l,hl,rfl⟩:=aj.mp m;exact .one ((eB hr).mp hl)
   ·obtain ⟨⟨y,t⟩,hy,m⟩:=aW.mp m;obtain ⟨l,hl,rfl⟩:=aj.mp m;have:=xL hy;exact .two hy ((eB (show t.length<=k by omega)).mp hl)
  ·intro p;cases p with
   |one p=>exact cT _ (aj.mpr ⟨_,(eB hr).mpr p,rfl⟩)
   |two hy p=>
    have:=xL hy;exact cJ _ (aW.mpr ⟨_,hy,aj.mpr ⟨_,(eB (by dsimp only;omega)).mpr p,rfl⟩⟩)
def xM {α:Type}: ∀(r:List α),(picks r).map (·.1)=r
 | []=>rfl
 |x::r=>by
  unfold picks;rw [be,bm];show x::(picks r).map (λy=>y.1)=x::r;rw [xM r]
def iq {α β:Type} {f:α->β}: ∀{l:List α},(l.map f).Nodup->l.Nodup
 | [],_=>by simp
 |a::l,h=>by
  rw [be] at h;obtain ⟨ha,hl⟩:=bo.mp h;exact bo.mpr ⟨λm=>ha (aj.mpr ⟨a,m,rfl⟩),iq hl⟩
def iN {α β:Type} {f:α->β}: ∀{l:List α},(l.map f).Nodup->∀a∈l, ∀b∈l,f a=f b->a=b
 | [],_,a,ha,_,_,_=>by cases ha
 |c::l,h,a,ha,b,hb,e=>by
  rw [be] at h;obtain ⟨hc,hl⟩:=bo.mp h;rcases aD.mp ha with Uy|Uy<;>rcases aD.mp hb with Cu|Cu
  ·rw [Uy,Cu]
  ·exact (hc (aj.mpr ⟨b,Cu,by rw [<-e,Uy]⟩)).elim
  ·exact (hc (aj.mpr ⟨a,Uy,by rw [e,Cu]⟩)).elim
  ·exact iN hl a Uy b Cu e
def jO: ∀(k:Nat) (cs:List Span),cs.Nodup->(pairings k cs).Nodup
 |0,cs,_=>by unfold pairings;simp
 |k+1,[],_=>by unfold pairings;simp
 |k+1,x::r,h=>by
  unfold pairings;obtain ⟨hx,hr⟩:=bo.mp h;have hp:((picks r).map (·.1)).Nodup:=by rw [xM];exact hr
  refine gH.mpr ⟨jE (λa b h=>(fS h).2) (jO k r hr),?_,λa ha b hb e=>?_⟩
  ·refine gU (iq hp) (λy hy=>jE (λa b h=>(fS h).2) (jO k y.2 ?_)) (λa ha b hb z hz hw=>?_)
   ·have:=(lj (z:=y.1) (t:=y.2) hy).2.nodup_iff.mpr hr;exact (bo.mp this).2
   ·obtain ⟨l,_,rfl⟩:=aj.mp hz;obtain ⟨l',_,e⟩:=aj.mp hw;have e1:=(fS e).1;injection e1 with _ e2;injection e2 with e3;exact iN hp a ha b hb e3.symm
  ·subst e;obtain ⟨l,_,rfl⟩:=aj.mp ha;obtain ⟨y,_,hb⟩:=aW.mp hb;obtain ⟨l',_,e⟩:=aj.mp hb;have e1:=(fS e).1;injection e1 with _ e2;cases e2
def yg {M:Nat->Bool} {cs:List Span} (h:lH M cs):cs.Nodup:=
 h.sorted.imp (λ{a b} h e=>by subst e;omega)
def oS: ∀{cs:List Span} {i n:Nat},lH (yX i n) cs->cs.length<=n-i
 | [],_,_,_=>bv _
 |c::r,i,n,h=>by
  obtain ⟨b,e⟩:=c;obtain ⟨h1,h2,h3,h4⟩:=h;simp only at h1 h2;have a1:=h3 b (cW.mpr ⟨ay _,h1⟩);rw [jx] at a1;have a2:=h3 (e-1) (cW.mpr ⟨by simp only;omega,by simp only;omega⟩);rw [jx] at a2;have hb:b=i:=by
   have: ¬i<b:=λz=>by
    have:=h2 i z;rw [k8] at this;omega
   omega
  subst hb;have:=oS (lH.congr (λx=>yW h1 (by omega)) h4);simp only [aR];omega
def sV (n:Nat):List (List Un):=(cuttings n 9 0).flatMap λcs=>pairings 9 cs
def qE {n:Nat} (h:n<=8) {us:List Un}:us∈sV n↔Tiled (yX 0 n) us:=by
 unfold sV;constructor
 ·intro m;obtain ⟨cs,hc,hp⟩:=aW.mp m;have c:=(eZ (by omega)).mp hc;have:=oS c;exact ((eB (by omega)).mp hp).R1 c
 ·intro t;obtain ⟨cs,c,p⟩:=t.A3;have:=oS c;exact aW.mpr ⟨cs,(eZ (by omega)).mpr c,(eB (by omega)).mpr p⟩
def Dq {n:Nat} (h:n<=8):(sV n).Nodup:=by
 unfold sV;refine gU (nE n 9 0) (λcs hc=>jO 9 cs (yg ((eZ (by omega)).mp hc))) (λa ha b hb x hx hy=>?_);have ca:=(eZ (by omega)).mp ha;have cb:=(eZ (by omega)).mp hb;have la:=oS ca;have lb:=oS cb;exact ((eB (by omega)).mp hx).unique ((eB (by omega)).mp hy) ca cb
def A0 {α:Type} [DecidableEq α] {a b:List α} (ha:a.Nodup) (hb:b.Nodup) (h: ∀x,x∈a↔x∈b):a.Perm b:=by
 rw [List.perm_iff_count];intro x;rw [ha.count,hb.count];simp only [h]
end Lf
namespace Lf
open Vbahaf
def ku {c m:Nat}:c&&&m=c↔∀x,c.testBit x=true->m.testBit x=true:=by
 constructor
 ·intro h x hx;have:(c&&&m).testBit x=c.testBit x:=by rw [h]
  rw [xr,hx,eN] at this;exact this
 ·intro h;apply jC;intro x;rw [xr];cases e:c.testBit x with
  |false=>rfl
  |true=>rw [h x e];rfl
def BX {d c:Nat} (h:d&&&c=0):d+c=d|||c:=by
 have hd:d<2^(d+c):=bu rc (d6 (by decide) (dU _ _));have hc:c<2^(d+c):=bu rc (d6 (by decide) (Nat.le_add_left _ _));have V1:d<2^(d+c+1):=ou hd (jB (by decide) (fP _));have hc1:c<2^(d+c+1):=ou hc (jB (by decide) (fP _));have e:=BitVec.add_eq_or_of_and_eq_zero (O2 (d+c+1) d) (O2 (d+c+1) c) (by
  apply BitVec.eq_of_toNat_eq;rw [BitVec.toNat_and,j5,j5,jk V1,jk hc1,h];simp)
 have e2:=congrArg BitVec.toNat e;rw [BitVec.toNat_add,BitVec.toNat_or,j5,j5,jk V1,jk hc1,jk] at e2
 ·exact e2
 ·rw [Vq];omega
def su {m c:Nat} (h:c&&&m=c) (x:Nat):(m-c).testBit x=(m.testBit x&&!c.testBit x):=by
 have hs:=ku.mp h;have e:(m^^^c)+c=m:=by
  rw [BX]
  ·apply jC;intro i;rw [zU,xq];cases e:c.testBit i with
   |false=>simp
   |true=>rw [hs i e];rfl
  ·apply jC;intro i;rw [xr,xq,jj];cases e:c.testBit i with
   |false=>simp
   |true=>rw [hs i e];rfl
 have e2:m-c=m^^^c:=by omega
 rw [e2,xq];cases e:c.testBit x with
 |false=>simp
 |true=>rw [hs x e];rfl
def tS {m c:Nat} (h:c&&&m=c) (h0:c≠0):m-c<m:=by
 have:c<=m:=by rw [<-h];exact N5
 omega
def zu (n x:Nat):(2^n-1).testBit x=yX 0 n x:=by
 rw [yw];unfold yX;simp
def B6 (m i:Nat):Prop:=m.testBit i=true/\∀j,j<i->m.testBit j=false
def B6.unique {m i j:Nat} (h:B6 m i) (k:B6 m j):i=j:=by
 rcases Nat.lt_trichotomy i j with z|z|z
 ·have:=h.1;rw [k.2 i z] at this;cases this
 ·exact z
 ·have:=k.1;rw [h.2 j z] at this;cases this
def qG (m:Nat):Nat->Nat->Nat
 |0,i=>i
 |k+1,i=>if m.testBit i=true then i else qG m k (i+1)
def low (m:Nat):Nat:=qG m m 0
def qF {m:Nat}: ∀{k i:Nat},(∀j,j<i->m.testBit j=false)->(∃x,x<=i+k/\m.testBit x=true)->B6 m (qG m k i)
 |0,i,h,⟨x,hx,ht⟩=>by
  unfold qG;have: ¬x<i:=λz=>by rw [h x z] at ht;cases ht
  have e:x=i:=by omega
  subst e;exact ⟨ht,h⟩
 |k+1,i,h,⟨x,hx,ht⟩=>by
  unfold qG;by_cases hi:m.testBit i=true
  ·rw [if_pos hi];exact ⟨hi,h⟩
  ·rw [if_neg hi];refine qF (λj hj=>?_) ⟨x,by omega,ht⟩;by_cases e:j=i
   ·subst e;simpa using hi
   ·exact h j (by omega)
def nF {m:Nat} (h:m≠0):B6 m (low m):=by
 obtain ⟨x,hx⟩:=wI h;refine qF (λj hj=>absurd hj (eC _)) ⟨x,?_,hx⟩;have:2^x<=m:=Aa hx;have:x<2^x:=rc;omega
structure sk (ch:Nat->List Un) (cv:Un->Nat):Prop where
 fst: ∀i u,u∈ch i->u.1.1=i
 ok: ∀i u,u∈ch i->HG u
 cv: ∀i u,u∈ch i->∀x,(cv u).testBit x=mV u x
 nd: ∀i,(ch i).Nodup
def pY {u:Un} (h:HG u):mV u u.1.1=true:=by
 unfold mV;rw [cW.mpr ⟨ay _,h.1⟩];rfl
def sk.ne {ch:Nat->List Un} {cv:Un->Nat} (C:sk ch cv) {i:Nat} {u:Un} (h:u∈ch i):cv u≠0:=λe=>by
 have:=C.cv i u h u.1.1;rw [pY (C.ok i u h),e,jj] at this;cases this
def kW (ch:Nat->List Un) (cv:Un->Nat):Nat->Nat->List (List Un)
 |0,_=> []
 |k+1,m=>if m=0 then [[]] else ((ch (low m)).filter λu=>decide (cv u&&&m=cv u)).flatMap λu=>(kW ch cv k (m-cv u)).map λl=>u::l
def rO {ch:Nat->List Un} {cv:Un->Nat} (C:sk ch cv): ∀{k m:Nat} {us:List Un},m<k->(us∈kW ch cv k m↔Tiled m.testBit us/\∀u∈us,u∈ch u.1.1)
 |0,m,us,h=>absurd h (eC _)
 |k+1,m,us,h=>by
  unfold kW;by_cases h0:m=0
  ·subst h0;rw [if_pos rfl];constructor
   ·intro z;obtain rfl:=aP.mp z;exact ⟨λi=>jj i,λu hu=>by cases hu⟩
   ·intro ⟨z,_⟩;cases us with
    |nil=>exact aP.mpr rfl
    |cons u l=>
     have:=z.2.2.1 u.1.1 (pY z.1);rw [jj] at this;cases this
  ·rw [if_neg h0];constructor
   ·intro z;obtain ⟨u,hu,z⟩:=aW.mp z;obtain ⟨l,hl,rfl⟩:=aj.mp z;obtain ⟨zp,GT⟩:=au.mp hu;have hs:cv u&&&m=cv u:=by simpa using GT
    have hc:=ku.mp hs;have jd:=tS hs (C.ne zp);obtain ⟨t,hm⟩:=(rO C (k:=k) (m:=m-cv u) (us:=l) (by omega)).mp hl;have ef:=C.fst _ _ zp;refine ⟨⟨C.ok _ _ zp,λi hi=>(nF h0).2 i (by rw [ef] at hi;exact hi),λi hi=>hc i (by rw [C.cv _ _ zp];exact hi),t.congr λi=>by rw [su hs,C.cv _ _ zp]⟩,λv hv=>?_⟩;rcases aD.mp hv with rfl|hv
    ·rw [ef];exact zp
    ·exact hm v hv
   ·intro ⟨t,hm⟩;cases us with
    |nil=>
     obtain ⟨x,hx⟩:=wI h0;have:=t x;rw [hx] at this;cases this
    |cons u l=>
     obtain ⟨t1,t2,t3,t4⟩:=t;have hu:=hm u aM;have Nf:low m=u.1.1:=(nF h0).unique ⟨t3 _ (pY t1),t2⟩;have hs:cv u&&&m=cv u:=ku.mpr λx hx=>t3 x (by rw [<-C.cv _ _ hu];exact hx);have jd:=tS hs (C.ne hu);refine aW.mpr ⟨u,au.mpr ⟨by rw [Nf];exact hu,by simpa using hs⟩,aj.mpr ⟨l,?_,rfl⟩⟩;exact (rO C (k:=k) (m:=m-cv u) (us:=l) (by omega)).mpr ⟨t4.congr λi=>by rw [su hs,C.cv _ _ hu],λv hv=>hm v (aF _ hv)⟩
def sC {ch:Nat->List Un} {cv:Un->Nat} (C:sk ch cv): ∀(k m:Nat),(kW ch cv k m).Nodup
 |0,_=>by unfold kW;simp
 |k+1,m=>by
  unfold kW;by_cases h0:m=0
  ·rw [if_pos h0];simp
  ·rw [if_neg h0];refine gU ((C.nd _).filter _) (λu _=>jE (λa b h=>(fS h).2) (sC C k _)) (λa _ b _ x hx hy=>?_);obtain ⟨l,_,rfl⟩:=aj.mp hx;obtain ⟨l',_,e⟩:=aj.mp hy;exact (fS e).1.symm
def pE {ch:Nat->List Un} {cv:Un->Nat} (C:sk ch cv) {n k:Nat} (hn:n<=8) (hk:2^n<=k):
  (kW ch cv k (2^n-1)).Perm ((sV n).filter λus=>us.all λu=>decide (u∈ch u.1.1)):=by
 refine A0 (sC C _ _) ((Dq hn).filter _) λus=>?_;have hp:0<2^n:=fk n;rw [rO C (by omega),au,qE hn];have e:(2^n-1).testBit=yX 0 n:=funext λx=>zu n x;rw [e];simp
end Lf
namespace Lf
open Vbahaf
def dk {a b:Int} {r s:List Int}:rowLess (a::r) (b::s)=true↔a<b∨(a=b/\rowLess r s=true):=by
 simp [rowLess]
def fX: ∀(r:List Int),rowLess r r=false
 | []=>rfl
 |a::r=>by
  cases e:rowLess (a::r) (a::r) with
  |false=>rfl
  |true=>
   rcases dk.mp e with h|⟨_,h⟩
   ·omega
   ·rw [fX r] at h;cases h
def qz: ∀{a b c:List Int},rowLess a b=true->rowLess b c=true->rowLess a c=true
 | [],[],_,h,_=>by cases h
 | [],_::_,[],_,h=>by cases h
 | [],_::_,_::_,_,_=>rfl
 |_::_,[],_,h,_=>by cases h
 |_::_,_::_,[],_,h=>by cases h
 |x::a,y::b,z::c,h,k=>by
  rcases dk.mp h with h|⟨e,h⟩<;>rcases dk.mp k with k|⟨f,k⟩
  ·exact dk.mpr (.inl (by omega))
  ·exact dk.mpr (.inl (by omega))
  ·exact dk.mpr (.inl (by omega))
  ·exact dk.mpr (.inr ⟨by omega,qz h k⟩)
def jK: ∀{a b:List Int},rowLess a b=false->rowLess b a=false->a=b
 | [],[],_,_=>rfl
 | [],_::_,h,_=>by cases h
 |_::_,[],_,h=>by cases h
 |x::a,y::b,h,k=>by
  have h': ¬(x<y∨(x=y/\rowLess a b=true)):=λz=>by rw [dk.mpr z] at h;cases h
  have k': ¬(y<x∨(y=x/\rowLess b a=true)):=λz=>by rw [dk.mpr z] at k;cases k
  have e:x=y:=by omega
  subst e;have e2:a=b:=jK (by cases q:rowLess a b with|false=>rfl|true=>exact (h' (.inr ⟨rfl,q⟩)).elim) (by cases q:rowLess b a with|false=>rfl|true=>exact (k' (.inr ⟨rfl,q⟩)).elim);rw [e2]
def uX {a b:List Int} (h:rowLess a b=true):rowLess b a=false:=by
 cases e:rowLess b a with
 |false=>rfl
 |true=>
  have:=qz h e;rw [fX] at this;cases this
def iY {a b c:List Int} (h:rowLess b a=false) (k:rowLess c b=false):rowLess c a=false:=by
 cases e:rowLess c a with
 |false=>rfl
 |true=>
  cases f:rowLess b c with
  |true=>
   have:=qz f e;rw [h] at this;cases this
  |false=>
   have:=jK k f;subst this;rw [h] at e;cases e
def qT (l:List (List Int)) (r:List Int):Prop:=r∈l/\∀x∈l,rowLess x r=false
def qT.unique {l:List (List Int)} {r t:List Int} (h:qT l r) (k:qT l t):r=t:=jK (k.2 r h.1) (h.2 t k.1)
def ll: ∀(l:List (List Int)) (b:Option (List Int)),
  (l.foldl (λ(b:Option (List Int)) x=>match b with
   |none=>some x
   |some y=>if rowLess x y=true then some x else some y) b=none↔l= []/\b=none)/\
  ∀r,l.foldl (λ(b:Option (List Int)) x=>match b with
   |none=>some x
   |some y=>if rowLess x y=true then some x else some y) b=some r->qT (b.toList++l) r
 | [],b=>by
  constructor
  ·cases b<;>simp
  ·intro r h;have h':b=some r:=h;subst h';exact ⟨by simp,λx hx=>by simp at hx;subst hx;exact fX _⟩
 |x::l,none=>by
  obtain ⟨h1,h2⟩:=ll l (some x);rw [ox];constructor
  ·constructor
   ·intro z;exact absurd (h1.mp z).2 (by simp)
   ·intro z;exact absurd z.1 (by simp)
  ·intro r h;exact h2 r h
 |x::l,some y=>by
  rw [ox];by_cases c:rowLess x y=true
  ·obtain ⟨h1,h2⟩:=ll l (some x);have e:(match (some y:Option (List Int)) with
    |none=>some x
    |some y=>if rowLess x y=true then some x else some y)=some x:=if_pos c
   rw [e];constructor
   ·constructor
    ·intro z;exact absurd (h1.mp z).2 (by simp)
    ·intro z;exact absurd z.1 (by simp)
   ·intro r h;obtain ⟨k1,k2⟩:=h2 r h;refine ⟨?_,λz hz=>?_⟩
    ·simp at k1⊢;rcases k1 with k1|k1
     ·exact .inr (.inl k1)
     ·exact .inr (.inr k1)
    ·simp at hz;rcases hz with rfl|hz
     ·exact iY (k2 x (by simp)) (uX c)
     ·exact k2 z (by simpa using hz)
  ·obtain ⟨h1,h2⟩:=ll l (some y);have e:(match (some y:Option (List Int)) with
    |none=>some x
    |some y=>if rowLess x y=true then some x else some y)=some y:=if_neg c
   rw [e];constructor
   ·constructor
    ·intro z;exact absurd (h1.mp z).2 (by simp)
    ·intro z;exact absurd z.1 (by simp)
   ·intro r h;obtain ⟨k1,k2⟩:=h2 r h;have hy:=k2 y (by simp);refine ⟨?_,λz hz=>?_⟩
    ·simp at k1⊢;rcases k1 with k1|k1
     ·exact .inl k1
     ·exact .inr (.inr k1)
    ·simp at hz;rcases hz with rfl|rfl|hz
     ·exact hy
     ·exact iY hy (by simpa using c)
     ·exact k2 z (by simp [hz])
def dz {l:List (List Int)}:least l=none↔l= []:=by
 have h:least l=none↔l= []/\(none:Option (List Int))=none:=(ll l none).1;rw [h];simp
def cu {l:List (List Int)} {r:List Int}:least l=some r↔qT l r:=by
 constructor
 ·intro h;have:=(ll l none).2 r h;simpa using this
 ·intro h;cases e:least l with
  |none=>
   rw [dz] at e;subst e;cases h.1
  |some t=>
   have:=(ll l none).2 t e;rw [h.unique (by simpa using this)]
def iZ {l t:List (List Int)} (h: ∀x,x∈l↔x∈t):least l=least t:=by
 cases e:least t with
 |none=>
  rw [dz] at e⊢;subst e;exact dP.mpr λx hx=>by cases (h x).mp hx
 |some r=>
  rw [cu] at e⊢;exact ⟨(h r).mpr e.1,λx hx=>e.2 x ((h x).mp hx)⟩
def Ph (us:List Un):List Span:=(IF us).mergeSort λa b=>decide (a.1<=b.1)
def ID {M:Nat->Bool} {cs:List Span} {us:List Un} (c:lH M cs) (p:i5 cs us):Ph us=cs:=by
 have hp:(Ph us).Perm cs:=(HS _ _).trans p.perm;have hs:(Ph us).Pairwise (λa b=>decide (a.1<=b.1)=true):=Cg (λa b c h k=>by simp at*;omega) (λa b=>by simp;omega) _;refine hp.eq_of_pairwise (le:=λa b:Span=>a.1<=b.1) (λa b ha hb h1 h2=>?_) (hs.imp λ{a b} h=>by simpa using h) (c.sorted.imp λ{a b} h=>j8 h);have Uz:=hp.mem_iff.mp ha;have key: ∀{l:List Span},l.Pairwise (λa b=>a.1<b.1)->∀a∈l, ∀b∈l,a.1=b.1->a=b:=by
  intro l;induction l with
  |nil=>intro _ a ha;cases ha
  |cons x l ih=>
   intro hl a ha b hb e;obtain ⟨h1,h2⟩:=dm.mp hl;rcases aD.mp ha with q|q<;>rcases aD.mp hb with r|r
   ·rw [q,r]
   ·have:=h1 b r;rw [q] at e;omega
   ·have:=h1 a q;rw [r] at e;omega
   ·exact ih h2 a q b r e
 exact key c.sorted a Uz b hb (by omega)
def Iq (ss:Singles) (ps:Pairs) (us:List Un):Option (List Int):=(priced ss ps (Ph us) us).map (rowOf (Ph us))
def fF {α β:Type} {f g:α->Option β}: ∀{l:List α},(∀a∈l,f a=g a)->l.filterMap f=l.filterMap g
 | [],_=>rfl
 |a::l,h=>by
  rw [db,db,h a aM,fF λb hb=>h b (aF _ hb)]
def cP {α β:Type} {f g:α->List β}: ∀{l:List α},(∀a∈l,f a=g a)->l.flatMap f=l.flatMap g
 | [],_=>rfl
 |a::l,h=>by
  rw [bB,bB,h a aM,cP λb hb=>h b (aF _ hb)]
def jT {α β γ:Type} {f:α->List β} {g:β->Option γ}: ∀{l:List α},(l.flatMap f).filterMap g=l.flatMap λa=>(f a).filterMap g
 | []=>rfl
 |a::l=>by rw [bB,i8,jT,bB]
def MC (s:State) (j:Journey) (af:Int) (hn:j.segs.length<=8):rows s j af=(sV j.segs.length).filterMap (Iq (allSingles s j af) (allPairs s j af)):=by
 unfold sV;rw [jT];unfold rows;refine cP λcs hc=>fF λus hu=>?_;have c:=(eZ (by omega)).mp hc;have:=oS c;have p:=(eB (by omega)).mp hu;unfold Iq;rw [ID c p]
def jS {α β:Type} [BEq α] [LawfulBEq α] {f:α->Option β} {c:α}: ∀{L:List α},c∈L->(L.filterMap λc=>(f c).map λr=>(c,r)).find? (λx=>x.1==c)=(f c).map λr=>(c,r)
 | [],h=>by cases h
 |d::L,h=>by
  rw [db];by_cases e:d=c
  ·subst e;cases q:f d with
   |some r=>simp
   |none=>
    simp only [Lo];by_cases hm:d∈L
    ·rw [jS hm,q];rfl
    ·rw [dO.mpr];intro x hx;obtain ⟨y,hy,ey⟩:=bU.mp hx;cases z:f y with
     |none=>rw [z] at ey;cases ey
     |some v=>
      rw [z] at ey;cases ey;intro w;have:y=d:=by simpa using w
      subst this;exact hm hy
  ·have hm:c∈L:=by
    rcases aD.mp h with z|z
    ·exact absurd z.symm e
    ·exact z
   cases q:f d with
   |none=>simpa using jS hm
   |some r=>
    simp only [dg];rw [iG (by simpa using e)];exact jS hm
def rP {i n a e:Nat}:(a,e)∈spans i n↔i<=a/\a<e/\e<=n:=by
 unfold spans;constructor
 ·intro h;obtain ⟨b,hb,h⟩:=aW.mp h;have OG:=bE.mp hb;by_cases hi:b<i
  ·rw [if_pos hi] at h;cases h
  ·rw [if_neg hi] at h;obtain ⟨x,hx,e⟩:=aj.mp h;cases e;obtain ⟨h1,h2⟩:=au.mp hx;have h1':=bE.mp h1;have h2':a<e:=by simpa using h2
   omega
 ·intro ⟨h1,h2,h3⟩;refine aW.mpr ⟨a,bE.mpr (by omega),?_⟩;rw [if_neg (by omega)];exact aj.mpr ⟨e,au.mpr ⟨bE.mpr (by omega),by simpa using h2⟩,rfl⟩
def nM {s:State} {j:Journey} {af:Int} {c:Span} (h:c.1<c.2) (h2:c.2<=j.segs.length):
  (allSingles s j af).find? (λx=>x.1==c)=(bestSingle s j af (cut j c.1 c.2)).map λr=>(c,r):=by
 unfold allSingles;exact jS (f:=λc:Nat×Nat=>bestSingle s j af (cut j c.1 c.2)) (rP.mpr ⟨bv _,h,h2⟩)
def nN {α β:Type} [BEq α] [LawfulBEq α] {g:α->List α} {f:α->α->Option β} {p q:α} (hq:q∈g p): ∀{L:List α},p∈L->
  (L.flatMap λp=>(g p).filterMap λq=>(f p q).map λr=>((p,q),r)).find? (λx=>x.1==(p,q))=(f p q).map λr=>((p,q),r)
 | [],h=>by cases h
 |d::L,h=>by
  rw [bB,List.find?_append];have JX: ∀{d},d≠p->((g d).filterMap λq=>(f d q).map λr=>((d,q),r)).find? (λx=>x.1==(p,q))=none:=λ{d} e=>by
   rw [dO];intro x hx;obtain ⟨y,hy,ey⟩:=bU.mp hx;cases z:f d y with
   |none=>rw [z] at ey;cases ey
   |some v=>
    rw [z] at ey;cases ey;intro w;have:=(gG (eq_of_beq w)).1;exact e this
  have TM:((g p).filterMap λq=>(f p q).map λr=>((p,q),r)).find? (λx=>x.1==(p,q))=(f p q).map λr=>((p,q),r):=by
   have k:=jS (f:=f p) hq;have e1:((g p).filterMap λq=>(f p q).map λr=>((p,q),r))=((g p).filterMap λq=>(f p q).map λr=>(q,r)).map λx=>((p,x.1),x.2):=by
    rw [List.map_filterMap];refine fF λa _=>?_;cases f p a<;>rfl
   rw [e1,List.find?_map];have e2:((λx:(α×α)×β=>x.1==(p,q))∘λx:α×β=>((p,x.1),x.2))=λx=>x.1==q:=by
    funext x;show ((p,x.1)==(p,q))=(x.1==q)
    rw [aX];simp
   rw [e2,k];cases f p q<;>rfl
  rcases Lu (d=p) with e|e
  ·subst e;rw [TM];cases z:f d q with
   |some r=>rfl
   |none=>
    simp only [Lo,LS];rcases Lu (d∈L) with hm|hm
    ·rw [nN hq hm,z];rfl
    ·rw [dO];intro x hx;obtain ⟨y,hy,hx⟩:=aW.mp hx;have:y≠d:=λw=>hm (w▸hy);have:=dO.mp (JX this) x hx;exact this
  ·rw [JX e,LS];refine nN hq ?_;rcases aD.mp h with z|z
   ·exact absurd z.symm e
   ·exact z
def Hq {s:State} {j:Journey} {af:Int} {p q:Span} (h1:p.1<p.2) (h2:p.2<=q.1) (h3:q.1<q.2) (h4:q.2<=j.segs.length):
  (allPairs s j af).find? (λx=>x.1==(p,q))=(bestPair s j af (cut j p.1 p.2) (cut j q.1 q.2)).map λr=>((p,q),r):=by
 unfold allPairs;exact nN (g:=λp:Nat×Nat=>spans p.2 j.segs.length) (f:=λp q:Nat×Nat=>bestPair s j af (cut j p.1 p.2) (cut j q.1 q.2)) (rP.mpr ⟨h2,h3,h4⟩) (rP.mpr ⟨bv _,h1,aV h2 (aV (j8 h3) h4)⟩)
end Lf
namespace Lf
open Vbahaf
def cr {lo hi x:Int}:within lo hi x=true↔lo<=x/\x<=hi:=by unfold within;simp
structure Wm (j:Journey):Prop where
 le:1<=j.segs.length
 ge:j.segs.length<=8
 seg: ∀g∈j.segs,segIn g=true
 joins:joins j.segs=true
 now:dayIn j.now=true
 day:j.now<=dayOf j.segs
structure kM (s:State):Prop where
 fs:s.fares.Pairwise (λa b=>a.key<b.key)
 fr: ∀f∈s.fares,fareIn f=true/\f.src≠f.dst
 fl:s.fares.length<=60
 os:(s.floors.map λx=>(x.1,x.2.1)).Nodup
 or: ∀x∈s.floors,airportIn x.1=true/\airportIn x.2.1=true/\1<=x.2.2/\x.2.2<=MONEY
 ol:s.floors.length<=40
 ts:(s.taxes.map λx=>x.1).Nodup
 tr: ∀x∈s.taxes,airportIn x.1=true/\1<=x.2/\x.2<=MONEY
 tl:s.taxes.length<=40
 pl:s.percents.length=5
 pr: ∀p∈s.percents,0<=p/\p<=200
 un:1<=s.unit/\s.unit<=10000
 co: ∀x∈s.combos,0<=x.1/\x.1<=7/\0<=x.2/\x.2<=7
 jo: ∀j,s.journey=some j->Wm j
def oJ {α:Type} (p q:α->Bool) (ZT: ∀x,p x=true->q x=false): ∀(l:List α),(l.filter p++l.filter q).Perm (l.filter λx=>p x||q x)
 | []=> .refl _
 |x::l=>by
  have ih:=oJ p q ZT l;cases e:p x with
  |true=>
   have e2:=ZT x e;simp only [bw,e,e2,RV,if_true,bN,if_false,LV];exact ih.cons _
  |false=>
   cases e2:q x with
   |true=>
    simp only [bw,e,e2,rf,if_true,bN,if_false];exact jf.trans (ih.cons _)
   |false=>
    simp only [bw,e,e2,rf,bN,if_false];exact ih
def kK {α:Type} {p q:α->Bool} {l:List α} (h: ∀x∈l,p x=q x):l.filter p=l.filter q:=iH h
def kE (l:List Fare) (f:Fare):(withFare l f).Perm (f::l.filter λx=>decide (x.key≠f.key)):=by
 unfold withFare;refine jf.trans (mZ _ ?_);refine (oJ (λx:Fare=>decide (x.key<f.key)) (λx:Fare=>decide (f.key<x.key)) (λx h=>by simp at*;omega) l).trans (.of_eq (kK λx _=>?_));rw [aX];simp;omega
def BU {a b:Int} {x:Int×Int×Int} (h:before2 a b x=true):isFloor a b x=false:=by
 unfold before2 at h;unfold isFloor;simp at*;omega
def nh (l:List (Int×Int×Int)) (a b m:Int):(withFloor l a b m).Perm ((if m=0 then [] else [(a,b,m)])++l.filter λx=>!isFloor a b x):=by
 unfold withFloor;have h:=oJ (before2 a b) (λx=>!before2 a b x&&!isFloor a b x) (λx h=>by rw [h];rfl) l;have e:(l.filter λx=>before2 a b x||(!before2 a b x&&!isFloor a b x))=l.filter λx=>!isFloor a b x:=kK λx _=>by
  cases q:before2 a b x with
  |true=>rw [BU q];rfl
  |false=>simp
 rw [e] at h;by_cases hm:m=0
 ·rw [if_pos hm,di,wK];exact h
 ·rw [if_neg hm,cq];exact jf.trans (h.cons _)
def ql (l:List (Int×Int)) (a m:Int):(withTax l a m).Perm ((if m=0 then [] else [(a,m)])++l.filter λx=>decide (x.1≠a)):=by
 unfold withTax;have h:=oJ (λx:Int×Int=>decide (x.1<a)) (λx:Int×Int=>decide (a<x.1)) (λx h=>by simp at*;omega) l;have e:(l.filter λx=>decide (x.1<a)||decide (a<x.1))=l.filter λx=>decide (x.1≠a):=kK λx _=>by
  rw [aX];simp;omega
 rw [e] at h;by_cases hm:m=0
 ·rw [if_pos hm,di,wK];exact h
 ·rw [if_neg hm,cq];exact jf.trans (h.cons _)
def sU {l:List Fare} (h:l.Pairwise λa b=>a.key<b.key) (f:Fare):(withFare l f).Pairwise λa b=>a.key<b.key:=by
 unfold withFare;refine List.pairwise_append.mpr ⟨h.filter _,dm.mpr ⟨λb hb=>?_,h.filter _⟩,λa ha b hb=>?_⟩
 ·simpa using (au.mp hb).2
 ·have h1:a.key<f.key:=by simpa using (au.mp ha).2
  rcases aD.mp hb with rfl|hb
  ·exact h1
  ·have h2:f.key<b.key:=by simpa using (au.mp hb).2
   omega
def M6 {l:List Fare} (h:l.Pairwise λa b=>a.key<b.key): ∀a∈l, ∀b∈l,a.key=b.key->a=b:=by
 induction l with
 |nil=>intro a ha;cases ha
 |cons x l ih=>
  intro a ha b hb e;obtain ⟨h1,h2⟩:=dm.mp h;rcases aD.mp ha with q|q<;>rcases aD.mp hb with r|r
  ·rw [q,r]
  ·have:=h1 b r;rw [q] at e;omega
  ·have:=h1 a q;rw [r] at e;omega
  ·exact ih h2 a q b r e
def i3 {s:State} (ok:kM s) {k:Int} {f:Fare}:fareOf s k=some f↔f∈s.fares/\f.key=k:=by
 unfold fareOf;constructor
 ·intro h;exact ⟨cZ h,by simpa using gk h⟩
 ·intro ⟨h1,h2⟩;cases e:s.fares.find? λf=>decide (f.key=k) with
  |none=>exact absurd (decide_eq_true h2) (by simpa using dO.mp e f h1)
  |some g=>
   have hg:g.key=k:=by simpa using gk e
   rw [M6 ok.fs g (cZ e) f h1 (hg.trans h2.symm)]
def sI {s:State} {k:Int}:fareOf s k=none↔∀f∈s.fares,f.key≠k:=by
 unfold fareOf;rw [dO];simp
def IC:kM start where
 fs:= .nil
 fr:=λf h=>by cases h
 fl:=by decide
 os:=eT
 or:=λf h=>by cases h
 ol:=by decide
 ts:=eT
 tr:=λf h=>by cases h
 tl:=by decide
 pl:=rfl
 pr:=λp h=>by
  have h:p∈ [100,100,100,100,100]:=h;simp at h;subst h;decide
 un:=by decide
 co:=by decide
 jo:=λj h=>by cases h
def pJ: ∀(l:List Int),(segsOf l).length=l.length/5
 | []=>rfl
 | [_]=>by simp [segsOf]
 | [_,_]=>by simp [segsOf]
 | [_,_,_]=>by simp [segsOf]
 | [_,_,_,_]=>by simp [segsOf]
 |_::_::_::_::_::r=>by
  unfold segsOf;simp only [aR,pJ r];omega
def kb {s:State} (ok:kM s) {c:Call} (hc:inRange c=true):kM (step s c).1:=by
 cases c with
 |fare f=>
  unfold step;dsimp only;by_cases h1:f.src=f.dst
  ·rw [if_pos h1];exact ok
  ·rw [if_neg h1];by_cases h2:(fareOf s f.key).isNone=true/\FARES<=s.fares.length
   ·rw [if_pos h2];exact ok
   ·rw [if_neg h2];have hp:=kE s.fares f;have hm: ∀g∈withFare s.fares f,g=f∨g∈s.fares:=λg hg=>by
     rcases aD.mp (hp.mem_iff.mp hg) with e|e
     ·exact .inl e
     ·exact .inr (au.mp e).1
    refine {ok with fs:=sU ok.fs f,fr:=λg hg=>?_,fl:=?_}
    ·rcases hm g hg with e|e
     ·subst e;exact ⟨hc,h1⟩
     ·exact ok.fr g e
    ·show (withFare s.fares f).length<=60;rw [hp.length_eq,aR];have hle:(s.fares.filter λx=>decide (x.key≠f.key)).length<=s.fares.length:=aN _ _;have:=ok.fl;cases q:fareOf s f.key with
     |none=>
      have: ¬FARES<=s.fares.length:=λz=>h2 ⟨by rw [q];rfl,z⟩;have e60:FARES=60:=rfl;omega
     |some g=>
      obtain ⟨Uq,Nh⟩:=(i3 ok).mp q;have jd:(s.fares.filter λx=>decide (x.key≠f.key)).length<s.fares.length:=by
       refine gI.mpr ⟨g,Uq,?_⟩;simp [Nh]
      omega
 |unfare k=>
  unfold step;dsimp only;by_cases h:(fareOf s k).isNone=true
  ·rw [if_pos h];exact ok
  ·rw [if_neg h];exact {ok with fs:=ok.fs.filter _,fr:=λg hg=>ok.fr g (au.mp hg).1,fl:=aV (aN _ _) ok.fl}
 |combine g h y=>
  unfold step;dsimp only;refine {ok with co:=λx hx=>?_};have hx:x∈GROUPPAIRS:=(au.mp hx).1;have all: ∀x∈GROUPPAIRS,0<=x.1/\x.1<=7/\0<=x.2/\x.2<=7:=by decide
  exact all x hx
 |floor a b m=>
  unfold step;dsimp only;by_cases h1:a=b
  ·rw [if_pos h1];exact ok
  ·rw [if_neg h1];by_cases h2:(s.floors.any (isFloor a b))=false/\m≠0/\FLOORS<=s.floors.length
   ·rw [if_pos h2];exact ok
   ·rw [if_neg h2];have hp:=nh s.floors a b m;have hr:airportIn a=true/\airportIn b=true/\0<=m/\m<=MONEY:=by
     have:(airportIn a&&airportIn b&&within 0 MONEY m)=true:=hc;simp only [aU,cr] at this;exact ⟨this.1.1,this.1.2,this.2⟩
    have Qi:(s.floors.filter λx=>!isFloor a b x).length<=s.floors.length:=aN _ _;refine {ok with os:=?_,or:=λx hx=>?_,ol:=?_}
    ·refine ((hp.map λx=>(x.1,x.2.1)).nodup_iff).mpr ?_;rw [aO];have hn:((s.floors.filter λx=>!isFloor a b x).map λx=>(x.1,x.2.1)).Nodup:=ok.os.sublist (qi.map _);by_cases hm:m=0
     ·rw [if_pos hm];exact hn
     ·rw [if_neg hm];refine bo.mpr ⟨λz=>?_,hn⟩;obtain ⟨x,hx,e⟩:=aj.mp z;have:=(au.mp hx).2;unfold isFloor at this;have e1:=(gG e).1;have e2:=(gG e).2;simp [e1,e2] at this
    ·rcases bG.mp (hp.mem_iff.mp hx) with z|z
     ·by_cases hm:m=0
      ·rw [if_pos hm] at z;cases z
      ·rw [if_neg hm] at z;have:=aP.mp z;subst this;exact ⟨hr.1,hr.2.1,by show 1<=m;omega,hr.2.2.2⟩
     ·exact ok.or x (au.mp z).1
    ·show (withFloor s.floors a b m).length<=40;rw [hp.length_eq,aL];have:=ok.ol;by_cases hm:m=0
     ·rw [if_pos hm];show 0+_<=40;omega
     ·rw [if_neg hm];show 1+_<=40;cases q:s.floors.any (isFloor a b) with
      |false=>
       have: ¬FLOORS<=s.floors.length:=λz=>h2 ⟨q,hm,z⟩;have e40:FLOORS=40:=rfl;omega
      |true=>
       obtain ⟨x,hx,XR⟩:=gS.mp q;have jd:(s.floors.filter λx=>!isFloor a b x).length<s.floors.length:=gI.mpr ⟨x,hx,by simp [XR]⟩;omega
 |tax a m=>
  unfold step;dsimp only;by_cases h2:(s.taxes.any λx=>decide (x.1=a))=false/\m≠0/\TAXES<=s.taxes.length
  ·rw [if_pos h2];exact ok
  ·rw [if_neg h2];have hp:=ql s.taxes a m;have hr:airportIn a=true/\0<=m/\m<=MONEY:=by
    have:(airportIn a&&within 0 MONEY m)=true:=hc;simp only [aU,cr] at this;exact ⟨this.1,this.2⟩
   have Qi:(s.taxes.filter λx=>decide (x.1≠a)).length<=s.taxes.length:=aN _ _;refine {ok with ts:=?_,tr:=λx hx=>?_,tl:=?_}
   ·refine ((hp.map λx=>x.1).nodup_iff).mpr ?_;rw [aO];have hn:((s.taxes.filter λx=>decide (x.1≠a)).map λx=>x.1).Nodup:=ok.ts.sublist (qi.map _);by_cases hm:m=0
    ·rw [if_pos hm];exact hn
    ·rw [if_neg hm];refine bo.mpr ⟨λz=>?_,hn⟩;obtain ⟨x,hx,e⟩:=aj.mp z;have:=(au.mp hx).2;have e:x.1=a:=e;simp [e] at this
   ·rcases bG.mp (hp.mem_iff.mp hx) with z|z
    ·by_cases hm:m=0
     ·rw [if_pos hm] at z;cases z
     ·rw [if_neg hm] at z;have:=aP.mp z;subst this;exact ⟨hr.1,by show 1<=m;omega,hr.2.2⟩
    ·exact ok.tr x (au.mp z).1
   ·show (withTax s.taxes a m).length<=40;rw [hp.length_eq,aL];have:=ok.tl;by_cases hm:m=0
    ·rw [if_pos hm];show 0+_<=40;omega
    ·rw [if_neg hm];show 1+_<=40;cases q:s.taxes.any λx=>decide (x.1=a) with
     |false=>
      have: ¬TAXES<=s.taxes.length:=λz=>h2 ⟨q,hm,z⟩;have e40:TAXES=40:=rfl;omega
     |true=>
      obtain ⟨x,hx,XR⟩:=gS.mp q;have jd:(s.taxes.filter λx=>decide (x.1≠a)).length<s.taxes.length:=gI.mpr ⟨x,hx,by simpa using XR⟩;omega
 |percent k p=>
  unfold step;dsimp only;have hr:kindIn k=true/\0<=p/\p<=200:=by
   have:(kindIn k&&within 0 200 p)=true:=hc;simp only [aU,cr] at this;exact ⟨this.1,this.2⟩
  refine {ok with pl:=by show (s.percents.set _ _).length=5;rw [wL];exact ok.pl,pr:=λq hq=>?_};rcases List.mem_or_eq_of_mem_set hq with z|z
  ·exact ok.pr q z
  ·rw [z];exact hr.2
 |unit u=>
  unfold step;dsimp only;exact {ok with un:=cr.mp hc}
 |journey n l=>
  unfold step;dsimp only;have hr:(dayIn n&&(decide (5<=l.length)&&(decide (l.length<=40)&&(decide (l.length%5=0)&&(segsOf l).all segIn))))=true:=hc;simp only [aU,decide_eq_true_eq,bJ] at hr;obtain ⟨h1,h2,h3,h4,h5⟩:=hr;show kM (if joins (segsOf l)=false∨dayOf (segsOf l)<n then (s,[-6]) else ({s with journey:=some {now:=n,segs:=segsOf l}},[0])).1;by_cases hj:joins (segsOf l)=false∨dayOf (segsOf l)<n
  ·rw [if_pos hj];exact ok
  ·rw [if_neg hj];refine {ok with jo:=λj e=>?_};have e:some ({now:=n,segs:=segsOf l}:Journey)=some j:=e;cases e;have hl:=pJ l;refine ⟨by show 1<=(segsOf l).length;omega,by show (segsOf l).length<=8;omega,h5,?_,h1,?_⟩
   ·cases q:joins (segsOf l) with
    |true=>rfl
    |false=>exact absurd (.inl q) hj
   ·show n<=dayOf (segsOf l);have: ¬dayOf (segsOf l)<n:=λz=>hj (.inr z);omega
 |price k=>unfold step withJourney;dsimp only;cases s.journey<;>exact ok
 |party l=>unfold step withJourney;dsimp only;cases s.journey<;>exact ok
 |singles k i e=>unfold step withJourney;dsimp only;cases s.journey<;>exact ok
 |pair k i e p q=>unfold step withJourney;dsimp only;cases s.journey<;>exact ok
 |check k l=>unfold step withJourney;dsimp only;cases s.journey<;>exact ok
 |alone k=>unfold step withJourney;dsimp only;cases s.journey<;>exact ok
 |count k=>unfold step withJourney;dsimp only;cases s.journey<;>exact ok
 |prefixes k=>unfold step withJourney;dsimp only;cases s.journey<;>exact ok
 |fares=>exact ok
 |told=>unfold step withJourney;dsimp only;cases s.journey<;>exact ok
end Lf
namespace Lf
open Vbahaf
def w8 {α:Type} {M:α->List (List Int)} {g:α->List Int->List Int} {L:List α} (hg: ∀u∈L, ∀x∈M u, ∀y∈M u,rowLess x y=false->rowLess (g u x) (g u y)=false):
  least (L.flatMap λu=>(M u).map (g u))=least (L.filterMap λu=>(least (M u)).map (g u)):=by
 cases e:least (L.filterMap λu=>(least (M u)).map (g u)) with
 |none=>
  rw [dz] at e⊢;refine dP.mpr λx hx=>?_;obtain ⟨u,hu,hx⟩:=aW.mp hx;obtain ⟨y,hy,rfl⟩:=aj.mp hx;cases q:least (M u) with
  |none=>rw [dz] at q;rw [q] at hy;cases hy
  |some r=>
   have:g u r∈(L.filterMap λu=>(least (M u)).map (g u)):=bU.mpr ⟨u,hu,by rw [q];rfl⟩;rw [e] at this;cases this
 |some r=>
  rw [cu] at e⊢;obtain ⟨hr,hm⟩:=e;constructor
  ·obtain ⟨u,hu,e⟩:=bU.mp hr;cases q:least (M u) with
   |none=>rw [q] at e;cases e
   |some t=>
    rw [q] at e;cases e;exact aW.mpr ⟨u,hu,aj.mpr ⟨t,(cu.mp q).1,rfl⟩⟩
  ·intro x hx;obtain ⟨u,hu,hx⟩:=aW.mp hx;obtain ⟨y,hy,rfl⟩:=aj.mp hx;cases q:least (M u) with
   |none=>rw [dz] at q;rw [q] at hy;cases hy
   |some t=>
    have h1:rowLess (g u t) r=false:=hm _ (bU.mpr ⟨u,hu,by rw [q];rfl⟩);have h2:rowLess (g u y) (g u t)=false:=hg u hu y hy t (cu.mp q).1 ((cu.mp q).2 y hy);exact iY h1 h2
def jU (p c:Int):List Int->List Int
 |a::b::r=>(a+p)::(b+c)::r
 |r=>r
def ju (pd cn:Un->Int) (us:List Un):List Int:= [(us.map pd).sum,(us.map cn).sum]
def kX (pd cn:Un->Int) (u:Un) (l:List Un):ju pd cn (u::l)=jU (pd u) (cn u) (ju pd cn l):=by
 unfold ju jU;simp only [be,fB,eU,and_true];exact ⟨tQ _ _,tQ _ _⟩
def yl (p c a b a' b':Int):rowLess (jU p c [a,b]) (jU p c [a',b'])=rowLess [a,b] [a',b']:=by
 rw [aX];unfold jU;rw [dk,dk,dk,dk];simp only [fX,bN,and_false,or_false];omega
section
variable {ch:Nat->List Un} {cv:Un->Nat}
def uv (C:sk ch cv): ∀{k k' m:Nat},m<k->m<k'->kW ch cv k m=kW ch cv k' m
 |0,_,_,h,_=>absurd h (eC _)
 |_+1,0,_,_,h=>absurd h (eC _)
 |k+1,k'+1,m,h,h'=>by
  unfold kW;by_cases h0:m=0
  ·rw [if_pos h0,if_pos h0]
  ·rw [if_neg h0,if_neg h0];refine cP λu hu=>?_;obtain ⟨zp,GT⟩:=au.mp hu;have hs:cv u&&&m=cv u:=by simpa using GT
   have jd:=tS hs (C.ne zp);rw [uv C (k:=k) (k':=k') (by omega) (by omega)]
end
def T (ch:Nat->List Un) (cv:Un->Nat) (m:Nat):List (List Un):=kW ch cv (m+1) m
def jr (ch:Nat->List Un) (cv:Un->Nat) (m:Nat):List Un:=(ch (low m)).filter λu=>decide (cv u&&&m=cv u)
section
variable {ch:Nat->List Un} {cv:Un->Nat} {pd cn:Un->Int}
def Ef:T ch cv 0= [[]]:=by unfold T kW;rw [if_pos rfl]
def qk (C:sk ch cv) {m:Nat} {u:Un} (hu:u∈jr ch cv m):m-cv u<m:=by
 obtain ⟨zp,GT⟩:=au.mp hu;have hs:cv u&&&m=cv u:=by simpa using GT
 exact tS hs (C.ne zp)
def zJ (C:sk ch cv) {m:Nat} (h:m≠0):T ch cv m=(jr ch cv m).flatMap λu=>(T ch cv (m-cv u)).map λl=>u::l:=by
 unfold T;rw [kW,if_neg h];refine cP λu hu=>?_;have jd:=qk C (m:=m) hu;rw [uv C (k:=m) (k':=m-cv u+1) jd (fP _)]
def Sm (ch:Nat->List Un) (cv:Un->Nat) (pd cn:Un->Int) (m:Nat):Option (List Int):=least ((T ch cv m).map (ju pd cn))
def zL:Sm ch cv pd cn 0=some [0,0]:=by
 unfold Sm;rw [Ef];rfl
def jV {m:Nat} {r:List Int} (h:Sm ch cv pd cn m=some r): ∃a b,r= [a,b]:=by
 obtain ⟨us,_,rfl⟩:=aj.mp (cu.mp h).1;exact ⟨_,_,rfl⟩
def FG (C:sk ch cv) {m:Nat} (h:m≠0):Sm ch cv pd cn m=least ((jr ch cv m).filterMap λu=>(Sm ch cv pd cn (m-cv u)).map (jU (pd u) (cn u))):=by
 unfold Sm;rw [zJ C h,ui];rw [<-w8 (M:=λu=>(T ch cv (m-cv u)).map (ju pd cn)) (g:=λu=>jU (pd u) (cn u))]
 ·congr 1
  refine cP λu _=>?_;rw [bm,bm];refine bP λl _=>?_;exact kX pd cn u l
 ·intro u _ x hx y hy hxy;obtain ⟨a,_,rfl⟩:=aj.mp hx;obtain ⟨b,_,rfl⟩:=aj.mp hy;unfold ju at*;rw [yl];exact hxy
def U9 (C:sk ch cv) {m:Nat} (h:m≠0):(T ch cv m).length=((jr ch cv m).map λu=>(T ch cv (m-cv u)).length).sum:=by
 rw [zJ C h,List.length_flatMap]
 congr 1
 refine bP λu _=>?_;rw [ab]
def FH {m:Nat}:Sm ch cv pd cn m=none↔T ch cv m= []:=by
 unfold Sm;rw [dz,qh]
def Op (ch:Nat->List Un) (cv:Un->Nat) (pd cn:Un->Int) (m:Nat):List (List Un):=(T ch cv m).filter λus=>decide (Sm ch cv pd cn m=some (ju pd cn us))
def Fc (ch:Nat->List Un) (cv:Un->Nat) (pd cn:Un->Int) (m:Nat):List Un:=(jr ch cv m).filter λu=>decide ((Sm ch cv pd cn (m-cv u)).map (jU (pd u) (cn u))=Sm ch cv pd cn m)
def FI:Op ch cv pd cn 0= [[]]:=by
 unfold Op;rw [Ef,zL];rfl
def mE {α β:Type} {f:α->List β} {p:β->Bool}: ∀{l:List α},(l.flatMap f).filter p=l.flatMap λa=>(f a).filter p
 | []=>rfl
 |a::l=>by rw [bB,dq,mE,bB]
def ji {α β:Type} {f:α->List β} {p:α->Bool}: ∀{l:List α},(l.filter p).flatMap f=l.flatMap λa=>if p a=true then f a else []
 | []=>rfl
 |a::l=>by
  rw [bw,bB];cases h:p a with
  |true=>rw [if_pos rfl,if_pos rfl,bB,ji]
  |false=>rw [if_neg aJ,if_neg aJ,ji];rfl
def E3 (C:sk ch cv) {m:Nat} (h:m≠0) {u:Un} (hu:u∈jr ch cv m) {l:List Un} (hl:l∈T ch cv (m-cv u)):
  Sm ch cv pd cn m=some (ju pd cn (u::l))↔(Sm ch cv pd cn (m-cv u)).map (jU (pd u) (cn u))=Sm ch cv pd cn m/\Sm ch cv pd cn (m-cv u)=some (ju pd cn l):=by
 constructor
 ·intro e;cases q:Sm ch cv pd cn (m-cv u) with
  |none=>
   rw [FH] at q;rw [q] at hl;cases hl
  |some r=>
   obtain ⟨a,b,rfl⟩:=jV q;have q':=cu.mp q;have hr: [a,b]=ju pd cn l:=by
    refine jK ?_ (q'.2 _ (aj.mpr ⟨l,hl,rfl⟩));obtain ⟨us,Cp,eus⟩:=aj.mp q'.1;have g9:u::us∈T ch cv m:=by
     rw [zJ C h];exact aW.mpr ⟨u,hu,aj.mpr ⟨us,Cp,rfl⟩⟩
    have k:=(cu.mp e).2 _ (aj.mpr ⟨u::us,g9,rfl⟩);rw [kX,kX,eus] at k;unfold ju at k⊢;rw [yl] at k;exact k
   rw [hr,e,kX];exact ⟨rfl,rfl⟩
 ·intro ⟨e1,e2⟩;rw [<-e1,e2,kX];rfl
def FJ (C:sk ch cv) {m:Nat} (h:m≠0):Op ch cv pd cn m=(Fc ch cv pd cn m).flatMap λu=>(Op ch cv pd cn (m-cv u)).map λl=>u::l:=by
 unfold Fc;rw [ji]
 conv=>lhs;unfold Op;rw [zJ C h,mE]
 refine cP λu hu=>?_;rw [ik];by_cases g:(Sm ch cv pd cn (m-cv u)).map (jU (pd u) (cn u))=Sm ch cv pd cn m
 ·rw [if_pos (by simpa using g)];unfold Op
  congr 1
  refine iH λl hl=>?_;show decide (Sm ch cv pd cn m=some (ju pd cn (u::l)))=_;rw [decide_eq_decide,E3 C h hu hl];exact ⟨λz=>z.2,λz=>⟨g,z⟩⟩
 ·rw [if_neg (by simpa using g)];rw [qh,List.filter_eq_nil_iff];intro l hl z;have z:Sm ch cv pd cn m=some (ju pd cn (u::l)):=by simpa using z
  exact g ((E3 C h hu hl).mp z).1
def FK {m:Nat} {r:List Int} (h:Sm ch cv pd cn m=some r):Op ch cv pd cn m≠ []:=by
 obtain ⟨us,Cp,e⟩:=aj.mp (cu.mp h).1;intro z;have:us∈Op ch cv pd cn m:=au.mpr ⟨Cp,by rw [h,e];simp⟩;rw [z] at this;cases this
def JI {m:Nat} {r:List Int} (h:Sm ch cv pd cn m=some r) {u:Un} (hu:u∈Fc ch cv pd cn m): ∃r',Sm ch cv pd cn (m-cv u)=some r':=by
 have:=(au.mp hu).2;have:(Sm ch cv pd cn (m-cv u)).map (jU (pd u) (cn u))=Sm ch cv pd cn m:=by simpa using this
 rw [h] at this;cases q:Sm ch cv pd cn (m-cv u) with
 |none=>rw [q] at this;cases this
 |some r'=>exact ⟨r',rfl⟩
def ME {a b a' b':Int} {r t:List Int}:rowLess ([a,b] ++r) ([a',b'] ++t)=true↔rowLess [a,b] [a',b']=true∨([a,b]= [a',b']/\rowLess r t=true):=by
 show rowLess (a::b::r) (a'::b'::t)=true↔_;rw [dk,dk,dk,dk];simp only [fX,bN,and_false,or_false,eU,and_true];constructor
 ·rintro (h|⟨h1,h2|⟨h2,h3⟩⟩)
  ·exact .inl (.inl h)
  ·exact .inl (.inr ⟨h1,h2⟩)
  ·exact .inr ⟨⟨h1,h2⟩,h3⟩
 ·rintro ((h|⟨h1,h2⟩)|⟨⟨h1,h2⟩,h3⟩)
  ·exact .inl h
  ·exact .inr ⟨h1, .inl h2⟩
  ·exact .inr ⟨h1, .inr ⟨h2,h3⟩⟩
def Bk {m:Nat} (pF:List Un->List Int) {r:List Int} (h:Sm ch cv pd cn m=some r) {t:List Int} (ht:least ((Op ch cv pd cn m).map pF)=some t):
  least ((T ch cv m).map λus=>ju pd cn us++pF us)=some (r++t):=by
 obtain ⟨a,b,rfl⟩:=jV h;rw [cu] at ht⊢;obtain ⟨h1,h2⟩:=cu.mp h;obtain ⟨h3,h4⟩:=ht;constructor
 ·obtain ⟨us,Cp,rfl⟩:=aj.mp h3;obtain ⟨hm,he⟩:=au.mp Cp;have he:Sm ch cv pd cn m=some (ju pd cn us):=by simpa using he
  rw [h] at he;exact aj.mpr ⟨us,hm,by rw [<-bx he]⟩
 ·intro x hx;obtain ⟨us,Cp,rfl⟩:=aj.mp hx;cases z:rowLess (ju pd cn us++pF us) ([a,b] ++t) with
  |false=>rfl
  |true=>
   unfold ju at z;rcases ME.mp z with q|⟨q1,q2⟩
   ·have:=h2 _ (aj.mpr ⟨us,Cp,rfl⟩);unfold ju at this;rw [this] at q;cases q
   ·have:pF us∈(Op ch cv pd cn m).map pF:=aj.mpr ⟨us,au.mpr ⟨Cp,by rw [h];unfold ju;rw [q1];simp⟩,rfl⟩;rw [h4 _ this] at q2;cases q2
def vD {m:Nat} (pF:List Un->List Int) {r:List Int} (h:Sm ch cv pd cn m=some r): ∃t,least ((Op ch cv pd cn m).map pF)=some t:=by
 cases q:least ((Op ch cv pd cn m).map pF) with
 |some t=>exact ⟨t,rfl⟩
 |none=>
  rw [dz,qh] at q;exact absurd q (FK h)
end
end Lf
namespace Lf
open Vbahaf
def tE (s:State) (j:Journey) (af:Int) (u:Un):Option (List Int):=match u.2 with
 |none=>bestSingle s j af (cut j u.1.1 u.1.2)
 |some q=>bestPair s j af (cut j u.1.1 u.1.2) (cut j q.1 q.2)
def gK {s:State} {j:Journey} {af:Int} {c:Comp} {r:List Int} (h:bestSingle s j af c=some r): ∃a k,r= [a,k]:=by
 obtain ⟨f,_,rfl⟩:=aj.mp (cu.mp h).1;exact ⟨_,_,rfl⟩
def nT {s:State} {j:Journey} {af:Int} {p q:Comp} {r:List Int} (h:bestPair s j af p q=some r): ∃a k m,r= [a,k,m]:=by
 obtain ⟨f,_,h⟩:=aW.mp (cu.mp h).1;obtain ⟨g,_,rfl⟩:=aj.mp h;exact ⟨_,_,_,rfl⟩
def pd (s:State) (j:Journey) (af:Int) (u:Un):Int:=((tE s j af u).getD []).getD 0 0
def k1 (s:State) (j:Journey) (af:Int) (u:Un):Int:=((tE s j af u).getD []).getD 1 0
def k2 (s:State) (j:Journey) (af:Int) (u:Un):Int:=((tE s j af u).getD []).getD 2 0
def cn (u:Un):Int:=match u.2 with
 |none=>1
 |some _=>2
def j3 (s:State) (j:Journey) (af:Int) (u:Un):List (Span×Int×Option Span):=match u.2 with
 |none=> [(u.1,k1 s j af u,none)]
 |some q=> [(u.1,k1 s j af u,some q),(q,k2 s j af u,some u.1)]
def HV (cs:List Span):Option Span->Int
 |none=>0
 |some p=>placeIn cs p
def sW (u:Un):Nat:=match u.2 with
 |none=>u.1.2
 |some q=>q.2
def uz (ps:List (Span×Int×Option Span)):List (Span×Int×Option Span):=ps.mergeSort λa b=>decide (a.1.1<=b.1.1)
def LX (q:List (Span×Int×Option Span)):List Int:=q.flatMap λx=> [(x.1.2:Int),x.2.1,HV (q.map (·.1)) x.2.2]
def pF (s:State) (j:Journey) (af:Int) (us:List Un):List Int:=LX (uz (us.flatMap (j3 s j af)))
def MG (s:State) (j:Journey) (af:Int) (u:Un):(j3 s j af u).map (·.1)=Sv u:=by
 unfold j3 Sv;cases u.2<;>rfl
def rJ (s:State) (j:Journey) (af:Int) (us:List Un):(us.flatMap (j3 s j af)).map (·.1)=IF us:=by
 unfold IF;rw [ui];exact cP λu _=>MG s j af u
def rL {s:State} {j:Journey} {af:Int} (cs:List Span): ∀{us:List Un},(∀u∈us,HG u/\sW u<=j.segs.length)->
  priced (allSingles s j af) (allPairs s j af) cs us=if (us.all λu=>(tE s j af u).isSome)=true then some ((us.map (pd s j af)).sum,(us.flatMap (j3 s j af)).map λy=>(y.1,y.2.1,HV cs y.2.2)) else none
 | [],_=>rfl
 |(c,none)::us,h=>by
  have ih:=rL (s:=s) (af:=af) cs (us:=us) λu hu=>h u (aF _ hu);obtain ⟨h1,h2⟩:=h (c,none) aM;have hf:=nM (s:=s) (j:=j) (af:=af) (c:=c) h1.1 h2;unfold priced;rw [hf,ih];have eb:tE s j af (c,none)=bestSingle s j af (cut j c.1 c.2):=rfl;rw [gq,eb];cases q:bestSingle s j af (cut j c.1 c.2) with
  |none=>rfl
  |some r=>
   obtain ⟨a,k,rfl⟩:=gK q;have e1:pd s j af (c,none)=a:=by unfold pd;rw [eb,q];rfl
   have e2:k1 s j af (c,none)=k:=by unfold k1;rw [eb,q];rfl
   simp only [dg,ic,eN];by_cases g:(us.all λu=>(tE s j af u).isSome)=true
   ·rw [if_pos g,if_pos g];simp only [be,fB,bB,aO,e1];rw [show j3 s j af (c,none)= [(c,k1 s j af (c,none),none)] from rfl,e2];rfl
   ·rw [if_neg g,if_neg g]
 |(p,some q)::us,h=>by
  have ih:=rL (s:=s) (af:=af) cs (us:=us) λu hu=>h u (aF _ hu);obtain ⟨h1,h2⟩:=h (p,some q) aM;obtain ⟨h3,h4⟩:=h1.2 q rfl;have hf:=Hq (s:=s) (j:=j) (af:=af) (p:=p) (q:=q) h1.1 h3 h4 h2;unfold priced;rw [hf,ih];have eb:tE s j af (p,some q)=bestPair s j af (cut j p.1 p.2) (cut j q.1 q.2):=rfl;rw [gq,eb];cases z:bestPair s j af (cut j p.1 p.2) (cut j q.1 q.2) with
  |none=>rfl
  |some r=>
   obtain ⟨a,k,m,rfl⟩:=nT z;have e1:pd s j af (p,some q)=a:=by unfold pd;rw [eb,z];rfl
   have e2:k1 s j af (p,some q)=k:=by unfold k1;rw [eb,z];rfl
   have e3:k2 s j af (p,some q)=m:=by unfold k2;rw [eb,z];rfl
   simp only [dg,ic,eN];by_cases g:(us.all λu=>(tE s j af u).isSome)=true
   ·rw [if_pos g,if_pos g];simp only [be,fB,bB,aO,e1];rw [show j3 s j af (p,some q)= [(p,k1 s j af (p,some q),some q),(q,k2 s j af (p,some q),some p)] from rfl,e2,e3];rfl
   ·rw [if_neg g,if_neg g]
def F8 {l cs:List Span} (hp:l.Perm cs) (hs:l.Pairwise λa b=>a.1<=b.1) (hc:cs.Pairwise λa b=>a.1<b.1):l=cs:=by
 refine hp.eq_of_pairwise (le:=λa b:Span=>a.1<=b.1) (λa b ha hb h1 h2=>?_) hs (hc.imp λ{a b} h=>j8 h);have Uz:=hp.mem_iff.mp ha;have key: ∀{l:List Span},l.Pairwise (λa b=>a.1<b.1)->∀a∈l, ∀b∈l,a.1=b.1->a=b:=by
  intro l;induction l with
  |nil=>intro _ a ha;cases ha
  |cons x l ih=>
   intro hl a ha b hb e;obtain ⟨h1,h2⟩:=dm.mp hl;rcases aD.mp ha with q|q<;>rcases aD.mp hb with r|r
   ·rw [q,r]
   ·have:=h1 b r;rw [q] at e;omega
   ·have:=h1 a q;rw [r] at e;omega
   ·exact ih h2 a q b r e
 exact key hc a Uz b hb (by omega)
def kY (P:List (Span×Int×Option Span)):(uz P).Perm P:=HS _ _
def sx (P:List (Span×Int×Option Span)):((uz P).map (·.1)).Pairwise λa b=>a.1<=b.1:=by
 have hs:(uz P).Pairwise (λa b=>decide (a.1.1<=b.1.1)=true):=Cg (λa b c h k=>by simp at*;omega) (λa b=>by simp;omega) _;rw [dE];exact hs.imp λ{a b} h=>by simpa using h
def Mo {s:State} {j:Journey} {af:Int} {M:Nat->Bool} {cs:List Span} {us:List Un} (c:lH M cs) (p:i5 cs us):(uz (us.flatMap (j3 s j af))).map (·.1)=cs:=by
 refine F8 ?_ (sx _) c.sorted;refine ((kY _).map _).trans ?_;rw [rJ];exact p.perm
def Ho {α:Type} {P:List (Span×α)} (nd:(P.map (·.1)).Nodup) {x:Span×α} (hx:x∈P):P.find? (λy=>y.1==x.1)=some x:=by
 induction P with
 |nil=>cases hx
 |cons a P ih=>
  have nd:(a.1::P.map (·.1)).Nodup:=nd;obtain ⟨n1,n2⟩:=bo.mp nd;rcases aD.mp hx with rfl|hx
  ·rw [nc (by simp)]
  ·rw [iG,ih n2 hx];intro e;have e:a.1=x.1:=eq_of_beq e;exact n1 (by rw [e];exact aj.mpr ⟨x,hx,rfl⟩)
def MD {s:State} {j:Journey} {af:Int} {M:Nat->Bool} {cs:List Span} {us:List Un} (c:lH M cs) (p:i5 cs us) (t:Int):
  rowOf cs (t,(us.flatMap (j3 s j af)).map λy=>(y.1,y.2.1,HV cs y.2.2))=t::(us.map cn).sum::pF s j af us:=by
 have YZ:=Mo (s:=s) (j:=j) (af:=af) c p;have YU:(cs.length:Int)=(us.map cn).sum:=by
  rw [<-p.perm.length_eq];clear YZ p c;induction us with
  |nil=>rfl
  |cons u us ih=>
   unfold IF at ih⊢;rw [bB,aL,be,fB, <-ih];have:((Sv u).length:Int)=cn u:=by unfold Sv cn;cases u.2<;>rfl
   rw [<-this];omega
 unfold rowOf;rw [YU];refine congrArg (λl=>t::(us.map cn).sum::l) ?_;unfold pF LX;rw [YZ];let F:Span->List Int:=λc=>match ((us.flatMap (j3 s j af)).map λy=>(y.1,y.2.1,HV cs y.2.2)).find? λy=>y.1==c with
  |some y=> [(c.2:Int),y.2.1,y.2.2]
  |none=> []
 show cs.flatMap F=_;refine Eq.trans (congrArg (λds:List Span=>ds.flatMap F) YZ.symm) ?_;show ((uz (us.flatMap (j3 s j af))).map (·.1)).flatMap F=_;rw [ul];refine cP λx hx=>?_;have hP:x∈us.flatMap (j3 s j af):=(kY _).mem_iff.mp hx;have nd:((us.flatMap (j3 s j af)).map (·.1)).Nodup:=by
  rw [rJ];exact p.perm.nodup_iff.mpr (yg c)
 have nd2:(((us.flatMap (j3 s j af)).map λy=>(y.1,y.2.1,HV cs y.2.2)).map (·.1)).Nodup:=by
  rw [bm];exact nd
 have hf:=Ho nd2 (x:=(x.1,x.2.1,HV cs x.2.2)) (aj.mpr ⟨x,hP,rfl⟩);show (match ((us.flatMap (j3 s j af)).map λy=>(y.1,y.2.1,HV cs y.2.2)).find? λy=>y.1==x.1 with
  |some y=> [(x.1.2:Int),y.2.1,y.2.2]
  |none=> [])=_
 rw [hf]
def uF (c:Span):Nat:=2^c.2-2^c.1
def eD (u:Un):Nat:=match u.2 with
 |none=>uF u.1
 |some q=>uF u.1|||uF q
def lX {c:Span} (h:c.1<c.2) (x:Nat):(uF c).testBit x=jh c x:=by
 unfold uF;have e:2^c.2-2^c.1=2^c.1*(2^(c.2-c.1)-1):=by
  rw [Nat.mul_sub, <-Nat.pow_add,Nat.mul_one]
  congr 2
  omega
 rw [e,Nat.testBit_two_pow_mul,yw];unfold jh;rw [aX];simp;omega
def Fy {u:Un} (h:HG u) (x:Nat):(eD u).testBit x=mV u x:=by
 unfold eD mV;cases e:u.2 with
 |none=>simp only [lX h.1,re]
 |some q=>
  simp only [zU];rw [lX h.1,lX (h.2 q e).2]
structure jY (s:State) (j:Journey) (af:Int) (al:Bool) (ch:Nat->List Un):Prop where
 mem: ∀i u,u∈ch i↔u.1.1=i/\HG u/\sW u<=j.segs.length/\(tE s j af u).isSome=true/\(al=true->u.2=none)
 nd: ∀i,(ch i).Nodup
def jY.ok {s:State} {j:Journey} {af:Int} {al:Bool} {ch:Nat->List Un} (C:jY s j af al ch):sk ch eD:=
 ⟨λi u h=>((C.mem i u).mp h).1,λi u h=>((C.mem i u).mp h).2.1,λi u h x=>Fy ((C.mem i u).mp h).2.1 x,C.nd⟩
def Lc {u:Un} (h:HG u):mV u (sW u-1)=true/\1<=sW u:=by
 unfold mV sW;cases e:u.2 with
 |none=>
  have:=h.1;refine ⟨?_,by simp only;omega⟩;simp only [re];exact cW.mpr ⟨by omega,by omega⟩
 |some q=>
  have:=(h.2 q e).2;refine ⟨?_,by simp only;omega⟩;simp only [wN];exact .inr (cW.mpr ⟨by omega,by omega⟩)
def Ah: ∀{us:List Un} {M:Nat->Bool},Tiled M us->∀u∈us,HG u/\∀i,mV u i=true->M i=true
 | [],_,_,u,hu=>by cases hu
 |v::us,M,t,u,hu=>by
  obtain ⟨t1,t2,t3,t4⟩:=t;rcases aD.mp hu with rfl|hu
  ·exact ⟨t1,t3⟩
  ·obtain ⟨a,b⟩:=Ah t4 u hu;exact ⟨a,λi hi=>by
    have:=b i hi;simp only [aU] at this;exact this.1⟩
def fD {us:List Un} {n:Nat} (t:Tiled (yX 0 n) us) {u:Un} (hu:u∈us):HG u/\sW u<=n:=by
 obtain ⟨a,b⟩:=Ah t u hu;obtain ⟨c,d⟩:=Lc a;have:=(jx.mp (b _ c)).2;exact ⟨a,by omega⟩
def rW {j:Journey} {n i e:Nat} (h:e<=n):cut (firstOf j n) i e=cut j i e:=by
 unfold cut firstOf;simp only;rw [List.drop_take,List.take_take]
 congr 1
 omega
def oU {s:State} {j:Journey} {af:Int} {n:Nat} {u:Un} (ok:HG u) (h:sW u<=n):tE s (firstOf j n) af u=tE s j af u:=by
 unfold tE;unfold sW at h;cases e:u.2 with
 |none=>
  rw [e] at h;simp only at h⊢;rw [rW h];rfl
 |some q=>
  rw [e] at h;have:=(ok.2 q e)
  simp only at h⊢;rw [rW h,rW (by omega)];rfl
def Gr {s:State} {j:Journey} {af:Int} {n:Nat} {u:Un} (ok:HG u) (h:sW u<=n):j3 s (firstOf j n) af u=j3 s j af u:=by
 unfold j3 k1 k2;rw [oU ok h]
def yc {j:Journey} {n:Nat} (h:n<=j.segs.length):(firstOf j n).segs.length=n:=by
 unfold firstOf;simp only [bc];omega
def ly (j:Journey):firstOf j j.segs.length=j:=by
 unfold firstOf;rw [bq]
def LZ {s:State} {j:Journey} {af:Int} {n:Nat} (hn:n<=j.segs.length) {us:List Un} (t:Tiled (yX 0 n) us):
  Iq (allSingles s (firstOf j n) af) (allPairs s (firstOf j n) af) us=if (us.all λu=>(tE s j af u).isSome)=true then some (ju (pd s j af) cn us++pF s j af us) else none:=by
 obtain ⟨cs,c,p⟩:=t.A3;unfold Iq;rw [ID c p,rL cs (j:=firstOf j n) λu hu=>by rw [yc hn];exact fD t hu];have e1:(us.all λu=>(tE s (firstOf j n) af u).isSome)=us.all λu=>(tE s j af u).isSome:=by
  rw [aX,bJ,bJ];constructor
  ·intro h u hu;rw [<-oU (fD t hu).1 (fD t hu).2];exact h u hu
  ·intro h u hu;rw [oU (fD t hu).1 (fD t hu).2];exact h u hu
 have e2:us.map (pd s (firstOf j n) af)=us.map (pd s j af):=bP λu hu=>by unfold pd;rw [oU (fD t hu).1 (fD t hu).2]
 have e3:us.flatMap (j3 s (firstOf j n) af)=us.flatMap (j3 s j af):=cP λu hu=>Gr (fD t hu).1 (fD t hu).2;rw [e1,e2,e3];by_cases g:(us.all λu=>(tE s j af u).isSome)=true
 ·rw [if_pos g,if_pos g];simp only [dg];rw [MD c p];rfl
 ·rw [if_neg g,if_neg g];rfl
def mm {α β:Type} {p:α->Bool} {f:α->β}: ∀{l:List α},(l.filterMap λa=>if p a=true then some (f a) else none)=(l.filter p).map f
 | []=>rfl
 |a::l=>by
  rw [db,bw];cases h:p a with
  |true=>rw [if_pos rfl,if_pos rfl,be,mm]
  |false=>rw [if_neg aJ,if_neg aJ,mm]
def C7 {s:State} {j:Journey} {af:Int} {ch:Nat->List Un} (C:jY s j af false ch) (h8:j.segs.length<=8) {n:Nat} (hn:n<=j.segs.length):
  (rows s (firstOf j n) af).Perm ((T ch eD (2^n-1)).map λus=>ju (pd s j af) cn us++pF s j af us):=by
 have hl:=yc hn;rw [MC s (firstOf j n) af (by omega),hl];have e:(sV n).filterMap (Iq (allSingles s (firstOf j n) af) (allPairs s (firstOf j n) af))=((sV n).filter λus=>us.all λu=>(tE s j af u).isSome).map λus=>ju (pd s j af) cn us++pF s j af us:=by
  rw [<-mm];exact fF λus Cp=>LZ hn ((qE (by omega)).mp Cp)
 rw [e];refine Ig _ ?_;have hp:0<2^n:=fk n;have t:=pE C.ok (n:=n) (k:=2^n-1+1) (by omega) (by omega);refine i9 ?_ t.symm;refine jb (iH λus Cp=>?_);have tl:=(qE (by omega)).mp Cp;rw [aX,bJ,bJ];constructor
 ·intro h u hu;obtain ⟨a,b⟩:=fD tl hu;exact decide_eq_true ((C.mem _ u).mpr ⟨rfl,a,by omega,h u hu,λz=>by cases z⟩)
 ·intro h u hu;exact ((C.mem _ u).mp (of_decide_eq_true (h u hu))).2.2.2.1
def pO {s:State} {j:Journey} {af:Int} {ch:Nat->List Un} (C:jY s j af false ch) (h8:j.segs.length<=8) {n:Nat} (hn:n<=j.segs.length)
  (h:Sm ch eD (pd s j af) cn (2^n-1)=none):price s (firstOf j n) af=none:=by
 unfold price;rw [iZ (t:=(T ch eD (2^n-1)).map λus=>ju (pd s j af) cn us++pF s j af us) λx=>(C7 C h8 hn).mem_iff,dz,FH.mp h];rfl
def pN {s:State} {j:Journey} {af:Int} {ch:Nat->List Un} (C:jY s j af false ch) (h8:j.segs.length<=8) {n:Nat} (hn:n<=j.segs.length) {r t:List Int}
  (h:Sm ch eD (pd s j af) cn (2^n-1)=some r) (ht:least ((Op ch eD (pd s j af) cn (2^n-1)).map (pF s j af))=some t):price s (firstOf j n) af=some (r++t):=by
 unfold price;rw [iZ (t:=(T ch eD (2^n-1)).map λus=>ju (pd s j af) cn us++pF s j af us) λx=>(C7 C h8 hn).mem_iff];exact Bk _ h ht
def Dd {s:State} {j:Journey} {af:Int} {ch:Nat->List Un} (C:jY s j af false ch) (h8:j.segs.length<=8) {n:Nat} (hn:n<=j.segs.length):
  (price s (firstOf j n) af).map (λr=>r.headD 0)=(Sm ch eD (pd s j af) cn (2^n-1)).map λr=>r.headD 0:=by
 cases h:Sm ch eD (pd s j af) cn (2^n-1) with
 |none=>rw [pO C h8 hn h]
 |some r=>
  obtain ⟨t,ht⟩:=vD (pF s j af) h;rw [pN C h8 hn h ht];obtain ⟨a,b,rfl⟩:=jV h;rfl
def NQ {s:State} {j:Journey} {af:Int} {ch:Nat->List Un} (C:jY s j af false ch) (h8:j.segs.length<=8):(rows s j af).length=(T ch eD (2^j.segs.length-1)).length:=by
 have:=(C7 C h8 (ay _)).length_eq;rw [ly,ab] at this;exact this
end Lf
namespace Lf
open Vbahaf
def wZ (l:List Int):Option Int:=l.foldl (λ(b:Option Int) x=>match b with
 |none=>some x
 |some y=>if x<y then some x else some y) none
def tZ: ∀(l:List Int) (b:Option Int), ∃r,l.foldl (λ(b:Option Int) x=>match b with
 |none=>some x
 |some y=>if x<y then some x else some y) b=r/\(r=none↔l= []/\b=none)/\∀x,r=some x->((x∈l∨b=some x)/\(∀y∈l,x<=y)/\∀y,b=some y->x<=y)
 | [],b=>by
  refine ⟨b,rfl,by simp,λx h=>⟨.inr h,λy hy=>(by cases hy),λy hy=>?_⟩⟩;rw [h] at hy;cases hy;exact wM _
 |a::l,none=>by
  obtain ⟨r,h1,h2,h3⟩:=tZ l (some a);refine ⟨r,h1,?_,λx hx=>?_⟩
  ·constructor
   ·intro z;have:=(h2.mp z).2;cases this
   ·intro z;cases z.1
  ·obtain ⟨p,q,t⟩:=h3 x hx;refine ⟨?_,λy hy=>?_,λy hy=>by cases hy⟩
   ·rcases p with p|p
    ·exact .inl (aF _ p)
    ·cases p;exact .inl aM
   ·rcases aD.mp hy with rfl|hy
    ·exact t _ rfl
    ·exact q y hy
 |a::l,some b=>by
  obtain ⟨r,h1,h2,h3⟩:=tZ l (if a<b then some a else some b);refine ⟨r,h1,?_,λx hx=>?_⟩
  ·constructor
   ·intro z;have:=(h2.mp z).2;by_cases h:a<b
    ·rw [if_pos h] at this;cases this
    ·rw [if_neg h] at this;cases this
   ·intro z;cases z.1
  ·obtain ⟨p,q,t⟩:=h3 x hx;by_cases h:a<b
   ·rw [if_pos h] at p t;have ht:=t a rfl;refine ⟨?_,λy hy=>?_,λy hy=>?_⟩
    ·rcases p with p|p
     ·exact .inl (aF _ p)
     ·cases p;exact .inl aM
    ·rcases aD.mp hy with rfl|hy
     ·exact ht
     ·exact q y hy
    ·cases hy;omega
   ·rw [if_neg h] at p t;have ht:=t b rfl;refine ⟨?_,λy hy=>?_,λy hy=>?_⟩
    ·rcases p with p|p
     ·exact .inl (aF _ p)
     ·exact .inr p
    ·rcases aD.mp hy with rfl|hy
     ·omega
     ·exact q y hy
    ·cases hy;exact ht
def GG {l:List Int}:wZ l=none↔l= []:=by
 obtain ⟨r,h1,h2,_⟩:=tZ l none;unfold wZ;rw [h1,h2];simp
def xS {l:List Int} {x:Int}:wZ l=some x↔x∈l/\∀y∈l,x<=y:=by
 obtain ⟨r,h1,h2,h3⟩:=tZ l none;unfold wZ;rw [h1];constructor
 ·intro h;obtain ⟨p,q,_⟩:=h3 x h;rcases p with p|p
  ·exact ⟨p,q⟩
  ·cases p
 ·intro ⟨p,q⟩;cases r with
  |none=>rw [(h2.mp rfl).1] at p;cases p
  |some z=>
   obtain ⟨p',q',_⟩:=h3 z rfl;rcases p' with p'|p'
   ·have:=q z p';have:=q' x p
    congr 1
    omega
   ·cases p'
def Dt {l t:List Int} (h: ∀x,x∈l↔x∈t):wZ l=wZ t:=by
 cases e:wZ t with
 |none=>
  rw [GG] at e⊢;subst e;exact dP.mpr λx hx=>by cases (h x).mp hx
 |some r=>
  rw [xS] at e⊢;exact ⟨(h r).mpr e.1,λx hx=>e.2 x ((h x).mp hx)⟩
def DF {L:List (List Int)} (h: ∀r∈L, ∃a b,r= [a,b]):(least L).map (λr=>r.headD 0)=wZ (L.map λr=>r.headD 0):=by
 cases e:least L with
 |none=>
  rw [dz] at e;subst e;rfl
 |some r=>
  obtain ⟨h1,h2⟩:=cu.mp e;symm;show _=some (r.headD 0);rw [xS];refine ⟨aj.mpr ⟨r,h1,rfl⟩,λy hy=>?_⟩;obtain ⟨x,hx,rfl⟩:=aj.mp hy;obtain ⟨a,b,rfl⟩:=h r h1;obtain ⟨c,d,rfl⟩:=h x hx;have:=h2 _ hx;show a<=c;rcases Int.lt_or_le c a with z|z
  ·have:rowLess [c,d] [a,b]=true:=dk.mpr (.inl z)
   simp_all
  ·exact z
def Be {n i e:Nat} (h1:i<=e) (h2:e<=n):2^n-2^i-(2^e-2^i)=2^n-2^e:=by
 have a:2^i<=2^e:=d6 (by decide) h1;have b:2^e<=2^n:=d6 (by decide) h2;omega
def Bg {i n:Nat} (h:i<n):low (2^n-2^i)=i:=by
 have hb:=λx=>lX (c:=(i,n)) h x;have gp:2^n-2^i≠0:=by
  have:2^i<2^n:=jB (by decide) h;omega
 refine (nF gp).unique ⟨?_,λx hx=>?_⟩
 ·have:=hb i;unfold uF at this;rw [this];exact cW.mpr ⟨ay _,h⟩
 ·have:=hb x;unfold uF at this;rw [this];exact gF.mpr λz=>by have:=z.1;simp only at this;omega
def zH {s:State} {j:Journey} {af:Int} {ch:Nat->List Un} (C:jY s j af true ch): ∀{k i:Nat},i<=j.segs.length->j.segs.length-i<k->
  alone (allSingles s j af) j.segs.length k i=(Sm ch eD (pd s j af) cn (2^j.segs.length-2^i)).map λr=>r.headD 0
 |0,i,_,h=>absurd h (eC _)
 |k+1,i,hi,h=>by
  unfold alone;by_cases hn:j.segs.length<=i
  ·rw [if_pos hn];have:i=j.segs.length:=by omega
   subst this;rw [tM,zL];rfl
  ·rw [if_neg hn];have GZ:i<j.segs.length:=by omega
   have gp:2^j.segs.length-2^i≠0:=by
    have:2^i<2^j.segs.length:=jB (by decide) GZ;omega
   rw [FG C.ok gp,DF]
   ·show wZ _=wZ _;refine Dt λx=>?_;constructor
    ·intro hx;obtain ⟨e,he,hx⟩:=bU.mp hx;obtain ⟨VZ,Qw⟩:=au.mp he;have VZ:=bE.mp VZ;have Qw:i<e:=by simpa using Qw
     rw [nM (c:=(i,e)) Qw (by omega:e<=_),zH C (k:=k) (i:=e) (by omega) (by omega)] at hx;cases q:bestSingle s j af (cut j i e) with
     |none=>simp only [q] at hx;cases hx
     |some r=>
      obtain ⟨a,ky,rfl⟩:=gK q;cases z:Sm ch eD (pd s j af) cn (2^j.segs.length-2^e) with
      |none=>simp only [q,z] at hx;cases hx
      |some t=>
       obtain ⟨b,c,rfl⟩:=jV z;simp only [q,z] at hx;have hx:some (a+b)=some x:=hx;cases hx;have eb:tE s j af ((i,e),none)=some [a,ky]:=q;have hu:((i,e),none)∈ch i:=(C.mem i _).mpr ⟨rfl,⟨Qw,λq z=>by cases z⟩,by show e<=_;omega,by rw [eb];rfl,λ_=>rfl⟩;have hw:((i,e),none)∈jr ch eD (2^j.segs.length-2^i):=by
        unfold jr;rw [Bg GZ];refine au.mpr ⟨hu,decide_eq_true (ku.mpr λx hx=>?_)⟩;rw [Fy ⟨Qw,λq z=>by cases z⟩] at hx;have:=lX (c:=(i,j.segs.length)) GZ x;unfold uF at this;rw [this];unfold mV at hx;simp only [re] at hx;have hx:=cW.mp hx;exact cW.mpr ⟨hx.1,bu hx.2 (by show e<=_;omega)⟩
       refine aj.mpr ⟨jU a 1 [b,c],bU.mpr ⟨((i,e),none),hw,?_⟩,?_⟩
       ·show (Sm ch eD (pd s j af) cn (2^j.segs.length-2^i-(2^e-2^i))).map _=_;rw [Be (by omega) (by omega),z];have:pd s j af ((i,e),none)=a:=by unfold pd;rw [eb];rfl
        rw [this];rfl
       ·show b+a=a+b;exact tQ _ _
    ·intro hx;obtain ⟨r,hr,rfl⟩:=aj.mp hx;obtain ⟨u,hu,hr⟩:=bU.mp hr;unfold jr at hu;rw [Bg GZ] at hu;obtain ⟨hu,_⟩:=au.mp hu;obtain ⟨m1,m2,m3,m4,m5⟩:=(C.mem i u).mp hu;obtain ⟨⟨i',e⟩,o⟩:=u;have m5:o=none:=m5 rfl;have m1:i'=i:=m1;subst m5 m1;have m3:e<=j.segs.length:=m3;have ZG:i'<e:=m2.1;have hr:(Sm ch eD (pd s j af) cn (2^j.segs.length-2^i'-(2^e-2^i'))).map (jU (pd s j af ((i',e),none)) (cn ((i',e),none)))=some r:=hr;rw [Be (by omega) (by omega)] at hr;refine bU.mpr ⟨e,au.mpr ⟨bE.mpr (by omega),by simpa using ZG⟩,?_⟩;rw [nM (c:=(i',e)) ZG m3,zH C (k:=k) (i:=e) (by omega) (by omega)];have eb:tE s j af ((i',e),none)=bestSingle s j af (cut j i' e):=rfl;rw [eb] at m4;cases q:bestSingle s j af (cut j i' e) with
     |none=>rw [q] at m4;cases m4
     |some t=>
      obtain ⟨a,ky,rfl⟩:=gK q;have:pd s j af ((i',e),none)=a:=by unfold pd;rw [eb,q];rfl
      rw [this] at hr;cases z:Sm ch eD (pd s j af) cn (2^j.segs.length-2^e) with
      |none=>rw [z] at hr;cases hr
      |some t=>
       obtain ⟨b,c,rfl⟩:=jV z;rw [z] at hr;have hr:some (jU a 1 [b,c])=some r:=hr;cases hr;show some (a+b)=some (b+a);rw [tQ]
   ·intro r hr;obtain ⟨u,_,hr⟩:=bU.mp hr;cases z:Sm ch eD (pd s j af) cn (2^j.segs.length-2^i-eD u) with
    |none=>rw [z] at hr;cases hr
    |some t=>
     obtain ⟨b,c,rfl⟩:=jV z;rw [z] at hr;cases hr;exact ⟨_,_,rfl⟩
def kJ: ∀(l:List Int) (a:Int),a<=greatest a l/\(∀y∈l,y<=greatest a l)/\(greatest a l=a∨greatest a l∈l)
 | [],a=>⟨wM _,λy hy=>(by cases hy), .inl rfl⟩
 |x::l,a=>by
  have e:greatest a (x::l)=greatest (if a<=x then x else a) l:=rfl;rw [e];by_cases h:a<=x
  ·rw [if_pos h];obtain ⟨p,q,r⟩:=kJ l x;refine ⟨by omega,λy hy=>?_,?_⟩
   ·rcases aD.mp hy with rfl|hy
    ·exact p
    ·exact q y hy
   ·rcases r with r|r
    ·exact .inr (by rw [r];exact aM)
    ·exact .inr (aF _ r)
  ·rw [if_neg h];obtain ⟨p,q,r⟩:=kJ l a;refine ⟨p,λy hy=>?_,?_⟩
   ·rcases aD.mp hy with rfl|hy
    ·omega
    ·exact q y hy
   ·rcases r with r|r
    ·exact .inl r
    ·exact .inr (aF _ r)
def md {s:State} {v:Int}: ∀{nu:List Int},v∈floorsIn s nu↔∃(i k:Nat) (x y:Int),i<k/\nu[i]?=some x/\nu[k]?=some y/\(x,y,v)∈s.floors
 | []=>by
  constructor
  ·intro h;cases h
  ·rintro ⟨i,k,x,y,_,h,_⟩;simp at h
 |p::nu=>by
  unfold floorsIn;rw [bG,md];constructor
  ·rintro (h|⟨i,k,x,y,h1,h2,h3,h4⟩)
   ·obtain ⟨⟨a,b,c⟩,hz,rfl⟩:=aj.mp h;obtain ⟨z1,z2⟩:=au.mp hz;simp only [aU,decide_eq_true_eq,eW] at z2;obtain ⟨rfl,z2⟩:=z2;obtain ⟨k,hk⟩:=gN z2;exact ⟨0,k+1,a,b,by omega,rfl,by simpa using hk,z1⟩
   ·exact ⟨i+1,k+1,x,y,by omega,by simpa using h2,by simpa using h3,h4⟩
  ·rintro ⟨i,k,x,y,h1,h2,h3,h4⟩;cases i with
   |zero=>
    left;have e:p=x:=by simpa using h2
    subst e;cases k with
    |zero=>omega
    |succ k=>
     have h3:nu[k]?=some y:=by simpa using h3
     refine aj.mpr ⟨(p,y,v),au.mpr ⟨h4,?_⟩,rfl⟩;simp only [aU,decide_eq_true_eq,eW];exact ⟨trivial,aI h3⟩
   |succ i=>
    right;cases k with
    |zero=>omega
    |succ k=>exact ⟨i,k,x,y,by omega,by simpa using h2,by simpa using h3,h4⟩
def DW (s:State) (x y:Int):Int:=match s.floors.find? λz=>decide (z.1=x)&&decide (z.2.1=y) with
 |some z=>z.2.2
 |none=>0
def ue (s:State) (nu:List Int) (v:Int):Prop:=
 0<=v/\(∀(i k:Nat) (x y:Int),i<k->nu[i]?=some x->nu[k]?=some y->DW s x y<=v)/\(v=0∨∃(i k:Nat) (x y:Int),i<k/\nu[i]?=some x/\nu[k]?=some y/\v=DW s x y)
def BF {s:State} (ok:kM s) {x y v:Int} (h:(x,y,v)∈s.floors):DW s x y=v:=by
 unfold DW;have nd:=ok.os;cases q:s.floors.find? λz=>decide (z.1=x)&&decide (z.2.1=y) with
 |none=>
  have:=dO.mp q _ h;simp at this
 |some z=>
  have hz:=gk q;have hm:=cZ q;simp only [aU,decide_eq_true_eq] at hz;obtain ⟨a,b,c⟩:=z;simp only at hz;obtain ⟨rfl,rfl⟩:=hz;have e:=iN nd _ hm _ h (by rfl);simp only [gY,true_and] at e;exact e
def KP {s:State} {x y:Int} (h: ∀v,(x,y,v)∉s.floors):DW s x y=0:=by
 unfold DW;cases q:s.floors.find? λz=>decide (z.1=x)&&decide (z.2.1=y) with
 |none=>rfl
 |some z=>
  have hz:=gk q;have hm:=cZ q;simp only [aU,decide_eq_true_eq] at hz;obtain ⟨a,b,c⟩:=z;simp only at hz;obtain ⟨rfl,rfl⟩:=hz;exact absurd hm (h c)
def NF {s:State} {x y:Int}:DW s x y=0∨(x,y,DW s x y)∈s.floors:=by
 unfold DW;cases q:s.floors.find? λz=>decide (z.1=x)&&decide (z.2.1=y) with
 |none=>exact .inl rfl
 |some z=>
  right;have hz:=gk q;have hm:=cZ q;simp only [aU,decide_eq_true_eq] at hz;obtain ⟨a,b,c⟩:=z;simp only at hz;obtain ⟨rfl,rfl⟩:=hz;exact hm
def jQ {s:State} (ok:kM s) {nu:List Int} {v a:Int} (ha:0<=a) (h:ue s nu v):greatest a (floorsIn s nu)=if v>a then v else a:=by
 obtain ⟨h0,h1,h2⟩:=h;obtain ⟨g1,g2,g3⟩:=kJ (floorsIn s nu) a;have up:greatest a (floorsIn s nu)<=if v>a then v else a:=by
  rcases g3 with g|g
  ·rw [g];split<;>omega
  ·obtain ⟨i,k,x,y,l,e1,e2,m⟩:=md.mp g;have:=h1 i k x y l e1 e2;rw [BF ok m] at this;split<;>omega
 have lo:(if v>a then v else a)<=greatest a (floorsIn s nu):=by
  by_cases z:v>a
  ·rw [if_pos z];rcases h2 with h2|⟨i,k,x,y,l,e1,e2,e3⟩
   ·omega
   ·rcases NF (s:=s) (x:=x) (y:=y) with f|f
    ·omega
    ·rw [e3];exact g2 _ (md.mpr ⟨i,k,x,y,l,e1,e2,f⟩)
  ·rw [if_neg z];exact g1
 omega
end Lf
namespace Lf
open Vbahaf
def Bo {F G:List (List Int)} (h1: ∀x∈F,x∈G) (h2: ∀x∈G, ∃y∈F,rowLess x y=false):least F=least G:=by
 cases e:least F with
 |none=>
  rw [dz] at e;subst e;symm;rw [dz];exact dP.mpr λx hx=>by obtain ⟨y,hy,_⟩:=h2 x hx;cases hy
 |some r=>
  symm;rw [cu];obtain ⟨a,b⟩:=cu.mp e;refine ⟨h1 r a,λx hx=>?_⟩;obtain ⟨y,hy,l⟩:=h2 x hx;exact iY (b y hy) l
def vp (l:List (List Int)) (r:List Int):least (l++ [r])=match least l with
 |none=>some r
 |some y=>if rowLess r y=true then some r else some y:=by
 unfold least;rw [Lr];rfl
def rowsOf (A:List (Int×Int×Int)) (g:Int):List (List Int):=(A.filter λx=>decide (x.1=g)).map λx=> [x.2.1,x.2.2]
def vj {A:List (Int×Int×Int)} {g a k:Int}: [a,k]∈rowsOf A g↔(g,a,k)∈A:=by
 unfold rowsOf;constructor
 ·intro h;obtain ⟨⟨x,y,z⟩,hx,e⟩:=aj.mp h;obtain ⟨h1,h2⟩:=au.mp hx;have h2:x=g:=by simpa using h2
  simp only [eU,and_true] at e;obtain ⟨rfl,rfl⟩:=e;subst h2;exact h1
 ·intro h;exact aj.mpr ⟨_,au.mpr ⟨h,by simp⟩,rfl⟩
def sB {A:List (Int×Int×Int)} {g a k g':Int}:rowsOf (A++ [(g,a,k)]) g'=if g=g' then rowsOf A g'++ [[a,k]] else rowsOf A g':=by
 unfold rowsOf;rw [dq,aO];by_cases h:g=g'
 ·rw [if_pos h,bw,if_pos (by simpa using h)];rfl
 ·rw [if_neg h,bw,if_neg (by simpa using h)];simp
def O5 {a b a' b':Int} (h:rowLess [a,b] [a',b']=false):a'<a∨(a'=a/\b'<=b):=by
 have: ¬(a<a'∨(a=a'/\rowLess [b] [b']=true)):=λz=>by
  have:=dk.mpr z;rw [h] at this;cases this
 rw [dk] at this;simp only [fX,bN,and_false,or_false] at this;omega
def zh {A B GA GB:List (Int×Int×Int)} {R:Int->Int->Bool} (hA: ∀g a k,(g,a,k)∈GA↔least (rowsOf A g)=some [a,k]) (hB: ∀g a k,(g,a,k)∈GB↔least (rowsOf B g)=some [a,k]):
  least (GA.flatMap λx=>(GB.filter λy=>R x.1 y.1).map λy=> [x.2.1+y.2.1,x.2.2,y.2.2])=least (A.flatMap λx=>(B.filter λy=>R x.1 y.1).map λy=> [x.2.1+y.2.1,x.2.2,y.2.2]):=by
 have sub: ∀{A GA:List (Int×Int×Int)},(∀g a k,(g,a,k)∈GA↔least (rowsOf A g)=some [a,k])->∀x∈GA,x∈A:=λ{A GA} h x hx=>by
  obtain ⟨g,a,k⟩:=x;exact vj.mp (cu.mp ((h g a k).mp hx)).1
 have den: ∀{A GA:List (Int×Int×Int)},(∀g a k,(g,a,k)∈GA↔least (rowsOf A g)=some [a,k])->∀x∈A, ∃y∈GA,y.1=x.1/\(y.2.1<x.2.1∨(y.2.1=x.2.1/\y.2.2<=x.2.2)):=λ{A GA} h x hx=>by
  obtain ⟨g,a,k⟩:=x;have m:=vj.mpr hx;cases q:least (rowsOf A g) with
  |none=>rw [dz] at q;rw [q] at m;cases m
  |some r=>
   obtain ⟨m1,m2⟩:=cu.mp q;obtain ⟨⟨g',a',k'⟩,hz,rfl⟩:=aj.mp m1;exact ⟨(g,a',k'),(h g a' k').mpr q,rfl,O5 (m2 _ m)⟩
 refine Bo (λx hx=>?_) λx hx=>?_
 ·obtain ⟨u,hu,hx⟩:=aW.mp hx;obtain ⟨v,hv,rfl⟩:=aj.mp hx;obtain ⟨X0,XZ⟩:=au.mp hv;exact aW.mpr ⟨u,sub hA u hu,aj.mpr ⟨v,au.mpr ⟨sub hB v X0,XZ⟩,rfl⟩⟩
 ·obtain ⟨u,hu,hx⟩:=aW.mp hx;obtain ⟨v,hv,rfl⟩:=aj.mp hx;obtain ⟨X0,XZ⟩:=au.mp hv;obtain ⟨u',hu',eu,lu⟩:=den hA u hu;obtain ⟨v',RA,ev,lv⟩:=den hB v X0;refine ⟨_,aW.mpr ⟨u',hu',aj.mpr ⟨v',au.mpr ⟨RA,by rw [eu,ev];exact XZ⟩,rfl⟩⟩,?_⟩;cases z:rowLess [u.2.1+v.2.1,u.2.2,v.2.2] [u'.2.1+v'.2.1,u'.2.2,v'.2.2] with
  |false=>rfl
  |true=>
   rw [dk,dk,dk] at z;simp only [fX,bN,and_false,or_false] at z;omega
def Bt (x:List Int) (l:List (List Int)):((l.takeWhile λy=>rowLess y x)++x::(l.dropWhile λy=>rowLess y x)).Perm (x::l):=by
 refine jf.trans (mZ x ?_);rw [List.takeWhile_append_dropWhile]
def vB (x:List Int): ∀{l:List (List Int)},l.Pairwise (λa b=>rowLess b a=false)->((l.takeWhile λy=>rowLess y x)++x::(l.dropWhile λy=>rowLess y x)).Pairwise (λa b=>rowLess b a=false)
 | [],_=>by simp
 |y::l,h=>by
  obtain ⟨h1,h2⟩:=dm.mp h;rw [List.takeWhile_cons,List.dropWhile_cons];cases q:rowLess y x with
  |true=>
   simp only [if_true];show (y::((l.takeWhile λy=>rowLess y x)++x::(l.dropWhile λy=>rowLess y x))).Pairwise _;refine dm.mpr ⟨λz hz=>?_,vB x h2⟩;rcases aD.mp ((Bt x l).mem_iff.mp hz) with rfl|hz
   ·exact uX q
   ·exact h1 z hz
  |false=>
   simp only [bN,if_false];show (x::y::l).Pairwise _;refine dm.mpr ⟨λz hz=>?_,h⟩;rcases aD.mp hz with rfl|hz
   ·exact q
   ·exact iY q (h1 z hz)
def gJ: ∀(l:List (List Int)),(pairsSorted l).Perm l
 | []=>mY _
 |x::l=>(Bt x (pairsSorted l)).trans ((gJ l).cons x)
def jN: ∀(l:List (List Int)),(pairsSorted l).Pairwise (λa b=>rowLess b a=false)
 | []=>Vr
 |x::l=>vB x (jN l)
def Ar {l t:List (List Int)} (hp:l.Perm t) (h:l.Pairwise λa b=>rowLess b a=false):l=pairsSorted t:=by
 refine (hp.trans (gJ t).symm).eq_of_pairwise (le:=λa b=>rowLess b a=false) (λa b _ _ h1 h2=>jK h2 h1) h (jN t)
def AZ {s:State} {fl:List Fare} (h:fl.Perm s.fares) (j:Journey) (af:Int) (c:Comp):
  bestSingle s j af c=least ((fl.filter λf=>single j af f c).map λf=> [pay s af f c,f.key]):=by
 unfold bestSingle;exact iZ λx=>(((h.filter _).map _).mem_iff).symm
def Ends (p q:Comp):Option Int:=if srcOf p=dstOf q/\dstOf p=srcOf q then some 0 else if srcOf p=dstOf q then some 1 else if dstOf p=srcOf q then some 2 else none
def allow (n gD:Int) (f:Fare):Bool:=(n==0||(n==1&&bitOf f.open_ 0)||(n==2&&bitOf f.open_ 1))&&(decide (f.leastStay<=gD)&&decide (gD<=f.mostStay))
def ka (s:State) (f g:Fare) (p q:Comp):together s f g p q=match Ends p q with
 |none=>false
 |some n=>allow n (dayOf q-dayOf p) f&&(allow n (dayOf q-dayOf p) g&&s.combos.contains (f.group,g.group)):=by
 unfold together Ends allow;by_cases h1:srcOf p=dstOf q<;>by_cases h2:dstOf p=srcOf q<;>simp only [h1,h2,and_self,and_true,and_false,if_true,if_false,decide_true,decide_false] <;>
  cases bitOf f.open_ 0<;>cases bitOf g.open_ 0<;>cases bitOf f.open_ 1<;>cases bitOf g.open_ 1<;>cases s.combos.contains (f.group,g.group)<;>
  cases decide (f.leastStay<=dayOf q-dayOf p)<;>cases decide (g.leastStay<=dayOf q-dayOf p)<;>cases decide (dayOf q-dayOf p<=f.mostStay)<;>cases decide (dayOf q-dayOf p<=g.mostStay)<;>rfl
def side (s:State) (af:Int) (c:Comp) (n gD:Int) (fs:List Fare):List (Int×Int×Int):=(fs.filter (allow n gD)).map λf=>(f.group,pay s af f c,f.key)
def xk {s:State} {fl:List Fare} (h:fl.Perm s.fares) (j:Journey) (af:Int) (p q:Comp):bestPair s j af p q=match Ends p q with
 |none=>none
 |some n=>least ((side s af p n (dayOf q-dayOf p) (fl.filter λf=>outward j af f p)).flatMap λx=>
   ((side s af q n (dayOf q-dayOf p) (fl.filter λf=>homeward j af f q)).filter λy=>s.combos.contains (x.1,y.1)).map λy=> [x.2.1+y.2.1,x.2.2,y.2.2]):=by
 unfold bestPair;cases e:Ends p q with
 |none=>
  simp only;rw [dz];refine dP.mpr λx hx=>?_;obtain ⟨f,hf,hx⟩:=aW.mp hx;obtain ⟨g,hg,rfl⟩:=aj.mp hx;have:=(au.mp hg).2;rw [ka,e] at this;cases this
 |some n=>
  simp only;refine iZ λx=>?_;constructor
  ·intro hx;obtain ⟨f,hf,hx⟩:=aW.mp hx;obtain ⟨⟨g,z⟩,hg,rfl⟩:=aj.mp hx;obtain ⟨Uq,Nh⟩:=au.mp hg;obtain ⟨g',hg',eg⟩:=aj.mp Uq;cases eg;obtain ⟨Qv,HY⟩:=au.mp hf;obtain ⟨Yv,Yu⟩:=au.mp hg';rw [ka,e] at Nh;simp only [aU] at Nh;refine aW.mpr ⟨(f.group,pay s af f p,f.key),aj.mpr ⟨f,au.mpr ⟨au.mpr ⟨h.mem_iff.mpr Qv,HY⟩,Nh.1⟩,rfl⟩,?_⟩;refine aj.mpr ⟨(g.group,pay s af g q,g.key),au.mpr ⟨aj.mpr ⟨g,au.mpr ⟨au.mpr ⟨h.mem_iff.mpr Yv,Yu⟩,Nh.2.1⟩,rfl⟩,Nh.2.2⟩,rfl⟩
  ·intro hx;obtain ⟨x,XS,hx⟩:=aW.mp hx;obtain ⟨y,XQ,rfl⟩:=aj.mp hx;obtain ⟨f,hf,rfl⟩:=aj.mp XS;obtain ⟨XQ,hy2⟩:=au.mp XQ;obtain ⟨g,hg,rfl⟩:=aj.mp XQ;obtain ⟨Qv,HY⟩:=au.mp hf;obtain ⟨hf3,hf4⟩:=au.mp Qv;obtain ⟨Uq,Nh⟩:=au.mp hg;obtain ⟨Yv,Yu⟩:=au.mp Uq;refine aW.mpr ⟨f,au.mpr ⟨h.mem_iff.mp hf3,hf4⟩,aj.mpr ⟨(g,pay s af g q),au.mpr ⟨aj.mpr ⟨g,au.mpr ⟨h.mem_iff.mp Yv,Yu⟩,rfl⟩,?_⟩,rfl⟩⟩;rw [ka,e];simp only [aU];exact ⟨HY,Nh,hy2⟩
end Lf
namespace Lf
open PyVbahaf
def Im (c:List (List Int)):whole c=c:=by
 unfold whole;split<;>rfl
def GJ (cs:List (List (List Int))):cs.map whole=cs:=by
 have:whole=id:=funext Im;rw [this,ww]
inductive my:List Int->Int->List Int->Option (List Int)->List Int->Prop
 |plain {p n nums rest}:shape p=some (n,0)->nums.length=n->my (p::(nums++rest)) p nums none rest
 |Jd {p n nums row rest}:shape p=some (n,1)->nums.length=n->my (p::(nums++((row.length:Int)::(row++rest)))) p nums (some row) rest
def dc (p:Int) (nums:List Int):Option (List Int)->List (List Int)
 |none=> [p::nums]
 |some row=> [p::nums,row]
def jw {p:Int} {n k:Nat} (h:shape p=some (n,k)):
  (p=0/\n=15/\k=0)∨(p=1/\n=1/\k=0)∨(p=2/\n=3/\k=0)∨(p=3/\n=3/\k=0)∨(p=4/\n=2/\k=0)∨(p=5/\n=2/\k=0)∨(p=6/\n=1/\k=0)∨(p=7/\n=1/\k=1)∨(p=8/\n=1/\k=0)∨
  (p=9/\n=0/\k=1)∨(p=10/\n=3/\k=0)∨(p=11/\n=5/\k=0)∨(p=12/\n=1/\k=1)∨(p=13/\n=1/\k=0)∨(p=14/\n=1/\k=0)∨(p=15/\n=1/\k=0)∨(p=16/\n=0/\k=0)∨(p=17/\n=0/\k=0):=by
 unfold shape at h;by_cases h0:p=0
 ·rw [if_pos h0] at h;injection h with h;injection h with e1 e2;exact .inl ⟨h0,e1.symm,e2.symm⟩
 rw [if_neg h0] at h;by_cases h1:p=1
 ·rw [if_pos h1] at h;injection h with h;injection h with e1 e2;exact .inr (.inl ⟨h1,e1.symm,e2.symm⟩)
 rw [if_neg h1] at h;by_cases h2:p=2
 ·rw [if_pos h2] at h;injection h with h;injection h with e1 e2;exact .inr (.inr (.inl ⟨h2,e1.symm,e2.symm⟩))
 rw [if_neg h2] at h;by_cases h3:p=3
 ·rw [if_pos h3] at h;injection h with h;injection h with e1 e2;exact .inr (.inr (.inr (.inl ⟨h3,e1.symm,e2.symm⟩)))
 rw [if_neg h3] at h;by_cases h4:p=4
 ·rw [if_pos h4] at h;injection h with h;injection h with e1 e2;exact .inr (.inr (.inr (.inr (.inl ⟨h4,e1.symm,e2.symm⟩))))
 rw [if_neg h4] at h;by_cases h5:p=5
 ·rw [if_pos h5] at h;injection h with h;injection h with e1 e2;exact .inr (.inr (.inr (.inr (.inr (.inl ⟨h5,e1.symm,e2.symm⟩)))))
 rw [if_neg h5] at h;by_cases h6:p=6
 ·rw [if_pos h6] at h;injection h with h;injection h with e1 e2;exact .inr (.inr (.inr (.inr (.inr (.inr (.inl ⟨h6,e1.symm,e2.symm⟩))))))
 rw [if_neg h6] at h;by_cases h7:p=7
 ·rw [if_pos h7] at h;injection h with h;injection h with e1 e2;exact .inr (.inr (.inr (.inr (.inr (.inr (.inr (.inl ⟨h7,e1.symm,e2.symm⟩)))))))
 rw [if_neg h7] at h;by_cases h8:p=8
 ·rw [if_pos h8] at h;injection h with h;injection h with e1 e2;exact .inr (.inr (.inr (.inr (.inr (.inr (.inr (.inr (.inl ⟨h8,e1.symm,e2.symm⟩))))))))
 rw [if_neg h8] at h;by_cases h9:p=9
 ·rw [if_pos h9] at h;injection h with h;injection h with e1 e2;exact .inr (.inr (.inr (.inr (.inr (.inr (.inr (.inr (.inr (.inl ⟨h9,e1.symm,e2.symm⟩)))))))))
 rw [if_neg h9] at h;by_cases Nl:p=10
 ·rw [if_pos Nl] at h;injection h with h;injection h with e1 e2;exact .inr (.inr (.inr (.inr (.inr (.inr (.inr (.inr (.inr (.inr (.inl ⟨Nl,e1.symm,e2.symm⟩))))))))))
 rw [if_neg Nl] at h;by_cases Nk:p=11
 ·rw [if_pos Nk] at h;injection h with h;injection h with e1 e2;exact .inr (.inr (.inr (.inr (.inr (.inr (.inr (.inr (.inr (.inr (.inr (.inl ⟨Nk,e1.symm,e2.symm⟩)))))))))))
 rw [if_neg Nk] at h;by_cases BB:p=12
 ·rw [if_pos BB] at h;injection h with h;injection h with e1 e2;exact .inr (.inr (.inr (.inr (.inr (.inr (.inr (.inr (.inr (.inr (.inr (.inr (.inl ⟨BB,e1.symm,e2.symm⟩))))))))))))
 rw [if_neg BB] at h;by_cases UD:p=13
 ·rw [if_pos UD] at h;injection h with h;injection h with e1 e2;exact .inr (.inr (.inr (.inr (.inr (.inr (.inr (.inr (.inr (.inr (.inr (.inr (.inr (.inl ⟨UD,e1.symm,e2.symm⟩)))))))))))))
 rw [if_neg UD] at h;by_cases UC:p=14
 ·rw [if_pos UC] at h;injection h with h;injection h with e1 e2;exact .inr (.inr (.inr (.inr (.inr (.inr (.inr (.inr (.inr (.inr (.inr (.inr (.inr (.inr (.inl ⟨UC,e1.symm,e2.symm⟩))))))))))))))
 rw [if_neg UC] at h;by_cases QB:p=15
 ·rw [if_pos QB] at h;injection h with h;injection h with e1 e2;exact .inr (.inr (.inr (.inr (.inr (.inr (.inr (.inr (.inr (.inr (.inr (.inr (.inr (.inr (.inr (.inl ⟨QB,e1.symm,e2.symm⟩)))))))))))))))
 rw [if_neg QB] at h;by_cases wC:p=16
 ·rw [if_pos wC] at h;injection h with h;injection h with e1 e2;exact .inr (.inr (.inr (.inr (.inr (.inr (.inr (.inr (.inr (.inr (.inr (.inr (.inr (.inr (.inr (.inr (.inl ⟨wC,e1.symm,e2.symm⟩))))))))))))))))
 rw [if_neg wC] at h;by_cases YM:p=17
 ·rw [if_pos YM] at h;injection h with h;injection h with e1 e2;exact .inr (.inr (.inr (.inr (.inr (.inr (.inr (.inr (.inr (.inr (.inr (.inr (.inr (.inr (.inr (.inr (.inr (⟨YM,e1.symm,e2.symm⟩)))))))))))))))))
 rw [if_neg YM] at h;cases h
def Mq {p:Int} {n k:Nat} (h:shape p=some (n,k)):k=0∨k=1:=by
 rcases jw h with ⟨_,_,e⟩|⟨_,_,e⟩|⟨_,_,e⟩|⟨_,_,e⟩|⟨_,_,e⟩|⟨_,_,e⟩|⟨_,_,e⟩|⟨_,_,e⟩|⟨_,_,e⟩|⟨_,_,e⟩|⟨_,_,e⟩|⟨_,_,e⟩|⟨_,_,e⟩|⟨_,_,e⟩|⟨_,_,e⟩|⟨_,_,e⟩|⟨_,_,e⟩|⟨_,_,e⟩<;>omega
def NU {l:List Int} {c:List (List Int)} {t:List Int} (h:Cz shape l=some (c,t)): ∃p nums row,my l p nums row t/\c=dc p nums row:=by
 cases l with
 |nil=>cases h
 |cons p r=>
  unfold Cz at h;dsimp only at h;cases hs:shape p with
  |none=>rw [hs] at h;cases h
  |some nk=>
   obtain ⟨n,k⟩:=nk;rw [hs] at h;simp only at h;by_cases hl:r.length<n
   ·rw [if_pos hl] at h;cases h
   ·rw [if_neg hl] at h;have hn:(r.take n).length=n:=by rw [bc];omega
    rcases Mq hs with rfl|rfl
    ·unfold Cy at h;simp only [fR,gY] at h;obtain ⟨rfl,rfl⟩:=h;refine ⟨p,r.take n,none,?_,rfl⟩;have:=my.plain (rest:=r.drop n) hs hn;rw [oX] at this;exact this
    ·unfold Cy at h;cases hr:RU (r.drop n) with
     |none=>rw [hr] at h;cases h
     |some xt=>
      obtain ⟨x,u⟩:=xt;rw [hr] at h;unfold Cy at h;simp only [fR,gY] at h;obtain ⟨rfl,rfl⟩:=h;cases hd:r.drop n with
      |nil=>rw [hd] at hr;cases hr
      |cons m q=>
       rw [hd] at hr;unfold RU at hr;dsimp only at hr;by_cases hm:0<=m/\m.toNat<=q.length
       ·rw [if_pos hm] at hr;simp only [fR,gY] at hr;obtain ⟨rfl,rfl⟩:=hr;refine ⟨p,r.take n,some (q.take m.toNat),?_,rfl⟩;have:=my.Jd (row:=q.take m.toNat) (rest:=q.drop m.toNat) hs hn;have e:((q.take m.toNat).length:Int)=m:=by rw [bc];omega
        rw [e,oX, <-hd,oX] at this;exact this
       ·rw [if_neg hm] at hr;cases hr
inductive Reads:List Int->List (List (List Int))->Prop
 |nil:Reads [] []
 |cons {l p nums row rest cs}:my l p nums row rest->Reads rest cs->Reads l (dc p nums row::cs)
def AL: ∀{f:Nat} {l:List Int} {cs:List (List (List Int))},mS shape f l=some cs->Reads l cs
 |_,[],cs,h=>by
  have:some []=some cs:=by
   rw [<-h];unfold mS;rfl
  cases this;exact .nil
 |0,_::_,cs,h=>by cases h
 |f+1,p::r,cs,h=>by
  unfold mS at h;cases hc:Cz shape (p::r) with
  |none=>rw [hc] at h;cases h
  |some ct=>
   obtain ⟨c,t⟩:=ct;rw [hc] at h;simp only at h;cases ht:mS shape f t with
   |none=>rw [ht] at h;cases h
   |some RR=>
    rw [ht] at h;simp only [fR] at h;subst h;obtain ⟨p',nums,row,ha,rfl⟩:=NU hc;exact .cons ha (AL ht)
def OT {l:List Int} (h:answers_asked l=true): ∃cs,Reads l cs/\1<=cs.length/\cs.length<=150/\(∀c∈cs,lK c=true)/\
  answers l=je (i7 fu Vg cs):=by
 unfold answers_asked at h;unfold answers;cases hc:calls l with
 |none=>rw [hc] at h;cases h
 |some cs=>
  rw [hc] at h;unfold calls at hc;cases hp:mS shape l.length l with
  |none=>rw [hp] at hc;cases hc
  |some RR=>
   rw [hp] at hc;simp only [fR] at hc;rw [GJ] at hc;subst hc;have h:(PyFlat.atMost 150 RR&&wG RR)=true:=h;unfold wG at h;simp only [aU,decide_eq_true_eq,bJ] at h;exact ⟨RR,AL hp,h.2.1,h.2.2.1,h.2.2.2,rfl⟩
def FZ (a:List Int) (r:List (List Int)):je (a::r)=(a.length:Int)::a++je r:=by
 unfold je;rw [bB]
def AV (s:ag) (c:List (List Int)) (r:List (List (List Int))):
  je (i7 fu s (c::r))=((jq s c).2.length:Int)::(jq s c).2++je (i7 fu (jq s c).1 r):=by
 rw [show i7 fu s (c::r)=(jq s c).2::i7 fu (jq s c).1 r from rfl,FZ]
end Lf
namespace L2
open PySem PySem.Spec PyProof.Rows
abbrev Key:=Sum Int Str
def qI:Key->Value->Bool
 | .inl k,v=>Value.isInt k v
 | .inr x,v=>Value.isStrOf x v
def XF (w:adQ):Key->Int
 | .inl k=>aeu k
 | .inr x=>hashStr w x
def dR: ∀{k:Key} {v:Value},qI k v=true->(∃i t,k=az i/\v=Value.int i t)∨(∃x t,k=tH x/\v=Value.str x t)
 | .inl i,v,h=>by
  obtain ⟨t,e⟩:=Value.isInt_shape (k:=i) (v:=v) h;exact .inl ⟨i,t,rfl,e⟩
 | .inr x,v,h=>by
  obtain ⟨t,e⟩:=Value.isStrOf_shape (x:=x) (v:=v) h;exact .inr ⟨x,t,rfl,e⟩
def iM (i:Int) (t:Tok):qI (.inl i) (.int i t)=true:=by simp [qI,Value.isInt]
def GP (x:Str) (t:Tok):qI (.inr x) (.str x t)=true:=by simp [qI,Value.isStrOf]
def P9 (a b:Int):decide ((az a:Key)=az b)=(a==b):=by
 by_cases e:a=b
 ·subst e;simp
 ·have h: ¬(az a:Key)=az b:=λq=>e (cY q);rw [decide_eq_false h];exact (beq_eq_false_iff_ne.mpr e).symm
def P6 (a b:Str):decide ((tH a:Key)=tH b)=decide (a=b):=by
 by_cases e:a=b
 ·subst e;simp
 ·have h: ¬(tH a:Key)=tH b:=λq=>e (tH.inj q);rw [decide_eq_false h,decide_eq_false e]
def P8 (a:Int) (b:Str):decide ((az a:Key)=tH b)=false:=decide_eq_false (λq=>nomatch q)
def P7 (a:Str) (b:Int):decide ((tH a:Key)=az b)=false:=decide_eq_false (λq=>nomatch q)
def cI (prog:adT) (w:adQ):PySem.KeyKind prog w Key where
 is:=qI
 hash:=XF w
 inj:=λv a b ha hb=>by
  rcases dR ha with ⟨i,t,rfl,rfl⟩|⟨x,t,rfl,rfl⟩
  ·rcases dR hb with ⟨j,u,rfl,e⟩|⟨y,u,rfl,e⟩
   ·injection e with e1 _;rw [e1]
   ·exact nomatch e
  ·rcases dR hb with ⟨j,u,rfl,e⟩|⟨y,u,rfl,e⟩
   ·exact nomatch e
   ·injection e with e1 _;rw [e1]
 byValue:=λk v h=>by
  rcases dR h with ⟨i,t,rfl,rfl⟩|⟨x,t,rfl,rfl⟩<;>rfl
 pyHash:=λhv h=>by
  rcases dR hv with ⟨i,t,rfl,rfl⟩|⟨x,t,rfl,rfl⟩
  ·exact wpAny_pyHash_int h
  ·exact wpAny_pyHash_str h
 eqBool:=λhu hv h=>by
  rcases dR hu with ⟨i,t,rfl,rfl⟩|⟨x,t,rfl,rfl⟩
  ·rcases dR hv with ⟨j,u,rfl,rfl⟩|⟨y,u,rfl,rfl⟩
   ·rw [P9] at h;exact wpAny_eqBool_int h
   ·rw [P8] at h;exact SeqAt.EqAt.int_str i t y u _ _ _ _ h
  ·rcases dR hv with ⟨j,u,rfl,rfl⟩|⟨y,u,rfl,rfl⟩
   ·rw [P7] at h;exact SeqAt.EqAt.str_int x t j u _ _ _ _ h
   ·rw [P6] at h;exact wpAny_eqBool_str h
 «strs» :=λk x t v h=>by
  rcases dR h with ⟨i,u,rfl,e⟩|⟨y,u,rfl,e⟩
  ·exact nomatch e
  ·injection e with e1 _;subst e1;cases v<;>rfl
def Bd (prog:adT) (w:adQ) (i:Int) (t:Tok):(cI prog w).is (.inl i) (.int i t)=true:=iM i t
def Bc (prog:adT) (w:adQ) (x:Str) (t:Tok):(cI prog w).is (.inr x) (.str x t)=true:=GP x t
end L2
namespace L2
open PySem PySem.Spec PyProof.Rows
inductive V where
 |fY|bl (b:Bool)|int (i:Int)|str (x:Str)|zF (b:Array UInt8)|UQ (b:UInt64)|ref (a:Addr)|ty (n:String)
 deriving DecidableEq
def RelV:V->Value->Prop
 | .fY,u=>u=Value.none
 | .bl b,u=>u=Value.bool b
 | .int i,u=> ∃t,u=Value.int i t
 | .str x,u=> ∃t,u=Value.str x t
 | .zF b,u=> ∃t,u=Value.bytes b t
 | .UQ b,u=> ∃t,u=Value.float b t
 | .ref a,u=>u=Value.ref a
 | .ty n,u=>u=Value.type n
abbrev Vals:List V->List Value->Prop:=Paired RelV
def Vals.length {xs:List V} {us:List Value} (r:Vals xs us):xs.length=us.length:=Paired.length r
def Vals.get: ∀{xs:List V} {us:List Value} {i:Nat} {x:V},Vals xs us->xs[i]?=some x->∃u,us[i]?=some u/\RelV x u
 |_,_,_,_, .nil,e=>by simp at e
 |_,_,0,_, .cons r _,e=>by simp at e;subst e;exact ⟨_,rfl,r⟩
 |_,_,i+1,x, .cons _ t,e=>by
  obtain ⟨u,h1,h2⟩:=Vals.get (i:=i) (x:=x) t (by simpa using e);exact ⟨u,by simpa using h1,h2⟩
def Vals.set {x:V} {u:Value} (r:RelV x u): ∀{xs:List V} {us:List Value} (i:Nat),Vals xs us->Vals (xs.set i x) (us.set i u)
 |_,_,_, .nil=> .nil
 |_,_,0, .cons _ t=> .cons r t
 |_,_,i+1, .cons q t=> .cons q (Vals.set r i t)
def Vals.append: ∀{xs ys:List V} {us ws:List Value},Vals xs us->Vals ys ws->Vals (xs++ys) (us++ws)
 |_,_,_,_, .nil,s=>s
 |_,_,_,_, .cons r t,s=> .cons r (Vals.append t s)
def Vals.take: ∀{xs:List V} {us:List Value} (n:Nat),Vals xs us->Vals (xs.take n) (us.take n)
 |_,_,0,_=> .nil
 |_,_,_+1, .nil=> .nil
 |_,_,n+1, .cons r t=> .cons r (Vals.take n t)
def Vals.drop: ∀{xs:List V} {us:List Value} (n:Nat),Vals xs us->Vals (xs.drop n) (us.drop n)
 |_,_,0,r=>r
 |_,_,_+1, .nil=> .nil
 |_,_,n+1, .cons _ t=>Vals.drop n t
def j6:Option V->Option Value->Prop
 |some v,some u=>RelV v u
 |none,none=>True
 |_,_=>False
def KV {κ:Type}:List (κ×V)->List (κ×Value)->Prop:=Paired λ(p:κ×V) (q:κ×Value)=>p.1=q.1/\RelV p.2 q.2
def kV:Key->V
 | .inl i=> .int i
 | .inr x=> .str x
inductive HO where
 |lst (xs:List V)
 |tup (xs:List V)
 |dK (kvs:List (Key×V))|dT (kvs:List (List Key×V))
 |set (S:Int->Bool) (n:Nat)
 |ins (C dx:Addr) (fs:List (Str×V))
 |own (x:Addr)
 |xd (fs:List (Str×V))
 |met (f x:Addr)
 |yX (lo hi:Int)
 |lQ (o:Obj) (u:HO)
 |O7 (ps:Array Value)
 |ext (φ:adO->Prop)
abbrev Hp:=Addr->Option HO
def upd (H:Hp) (a:Addr) (o:HO):Hp:=λb=>if b=a then some o else H b
def ak {H:Hp} {a:Addr} {o:HO}:upd H a o a=some o:=by unfold upd;rw [if_pos rfl]
def bL {H:Hp} {a b:Addr} {o:HO} (h:b≠a):upd H a o b=H b:=by unfold upd;rw [if_neg h]
def L4 {H:Hp} {a:Addr} {o u:HO}:upd (upd H a o) a u=upd H a u:=by
 funext b;unfold upd;split<;>rfl
def cg {H:Hp} {a b:Addr} {o u:HO} (h:H a=some o) (h':H b=some u) (d:o≠u):a≠b:=by
 intro e;subst e;rw [h] at h';exact d (bx h')
def aG {H:Hp} {a b:Addr} {o:HO} (h:H a=some o) (h':H b=none):a≠b:=by
 intro e;subst e;rw [h] at h';cases h'
section
variable (P:adT) (w:adQ)
def dZ (H:Hp) (h:adO) (a:Addr):HO->Prop
 | .lst xs=>xs.length<=sizeLine/\∃(its:List Value) (n:Nat),Vals xs its/\h.get? a=some {cls:= .type "list",data:= .seq its.toArray n}
 | .tup xs=>xs.length<=sizeLine/\∃its:List Value,Vals xs its/\IsTup h a its.toArray
 | .dK kvs=>kvs.length<=sizeLine/\(a==ad4)=false/\∃vs,KV kvs vs/\h.DictOf (cI P w) a vs
 | .dT kvs=>kvs.length<=sizeLine/\(a==ad4)=false/\∃xs:List (List Key×Addr×Value),
   Paired (λ(p:List Key×V) (q:List Key×Addr×Value)=>p.1=q.1/\H q.2.1=some (.tup (p.1.map kV))/\RelV p.2 q.2.2) kvs xs/\
   ∃o es ep,h.get? a=some o/\o.ExactDict/\o.data= .dict es ep/\es.toList=xs.map (entryOfKey (aev (cI P w)))/\(xs.map (·.1)).Nodup
 | .set S n=>h.SetOf (intKind P w) a S n
 | .ins C dx fs=>H dx=some (.own a)/\fs.length<=1000/\dx≠a/\h.get? a=some (eY C dx)/\
   ∃mA,h.Ns1 dx mA/\(∀f,j6 (fs.lookup f) (mA f))/\Cf mA (fs.map (·.1))
 | .own _=> ∃o,h.get? a=some o
 | .xd fs=> ∃mA,h.Ns1 a mA/\∀f,j6 (fs.lookup f) (mA f)
 | .yX lo hi=> ∃t u v,h.get? a=some {cls:= .type "range",data:= .fields #[.int lo t, .int hi u, .int 1 v]}
 | .lQ o u=>h.get? a=some o/\dZ H h a u
 | .O7 ps=>h.get? a=some {cls:= .none,data:= .fields ps}
 | .met f x=>h.get? a=some (q5 (.ref f) (.ref x))
 | .ext φ=>φ h/\(∃o,h.get? a=some o)/\∀h1 h2:adO,φ h1->(∀o,h1.get? a=some o->h2.get? a=some o)->φ h2
def oh (H:Hp) (h:adO):Prop:= ∀a o,H a=some o->dZ P w H h a o
end
section
variable {P:adT} {w:adQ} {H H':Hp} {h h':adO} {a:Addr} {o:HO}
def dZ.lt (x:dZ P w H h a o):a<h.objs.size:=by
 cases o with
 |lst xs=>obtain ⟨_,_,_,_,e⟩:=x;exact Heap.lt_size e
 |tup xs=>obtain ⟨_,_,_,p⟩:=x;exact p.lt
 |dK kvs=>obtain ⟨_,_,_,_,o,_,_,e,_⟩:=x;exact Heap.lt_size e
 |dT kvs=>obtain ⟨_,_,_,_,o,_,_,e,_⟩:=x;exact Heap.lt_size e
 |set S n=>obtain ⟨o,_,_,_,e,_⟩:=x;exact Heap.lt_size e
 |ins C dx fs=>obtain ⟨_,_,_,e,_⟩:=x;exact Heap.lt_size e
 |own y=>obtain ⟨_,e⟩:=x;exact Heap.lt_size e
 |xd fs=>obtain ⟨_,⟨_,_,_,e,_⟩,_⟩:=x;exact Heap.lt_size e
 |yX lo hi=>obtain ⟨_,_,_,e⟩:=x;exact Heap.lt_size e
 |lQ ob u=>obtain ⟨e,_⟩:=x;exact Heap.lt_size e
 |O7 ps=>exact Heap.lt_size (show h.get? a=some _ from x)
 |met f y=>exact Heap.lt_size (show h.get? a=some _ from x)
 |ext φ=>obtain ⟨_,⟨_,e⟩,_⟩:=x;exact Heap.lt_size e
def Paired.PX {α β:Type} {F G:α->β->Prop}: ∀{PZ:List α} {PY:List β},Paired F PZ PY->(∀a b,F a b->G a b)->Paired G PZ PY
 |_,_, .nil,_=> .nil
 |_,_, .cons r t,f=> .cons (f _ _ r) (Paired.PX t f)
def dZ.gD (x:dZ P w H h a o) (k: ∀b u,(b=a∨H b=some (.own a))->h.get? b=some u->h'.get? b=some u)
  (ho: ∀b,H b=some (.own a)->H' b=some (.own a)) (ht: ∀b xs,H b=some (.tup xs)->H' b=some (.tup xs)):dZ P w H' h' a o:=by
 induction o with
 |lst xs=>obtain ⟨z,its,n,r,e⟩:=x;exact ⟨z,its,n,r,k _ _ (.inl rfl) e⟩
 |tup xs=>obtain ⟨z,its,r,ob,e,c⟩:=x;exact ⟨z,its,r,ob,k _ _ (.inl rfl) e,c⟩
 |dK kvs=>obtain ⟨z,y,vs,r,ob,es,ep,e,c⟩:=x;exact ⟨z,y,vs,r,ob,es,ep,k _ _ (.inl rfl) e,c⟩
 |dT kvs=>
  obtain ⟨z,y,xs,r,ob,es,ep,e,c⟩:=x;exact ⟨z,y,xs,Paired.PX r λp q z=>⟨z.1,ht _ _ z.2.1,z.2.2⟩,ob,es,ep,k _ _ (.inl rfl) e,c⟩
 |set S n=>obtain ⟨ob,es,ep,t,e,c⟩:=x;exact ⟨ob,es,ep,t,k _ _ (.inl rfl) e,c⟩
 |ins C dx fs=>
  obtain ⟨d,z,ne,e,mA,⟨od,es,ep,e2,c⟩,r⟩:=x;exact ⟨ho _ d,z,ne,k _ _ (.inl rfl) e,mA,⟨od,es,ep,k _ _ (.inr d) e2,c⟩,r⟩
 |own y=>obtain ⟨ob,e⟩:=x;exact ⟨ob,k _ _ (.inl rfl) e⟩
 |xd fs=>obtain ⟨mA,⟨od,es,ep,e,c⟩,r⟩:=x;exact ⟨mA,⟨od,es,ep,k _ _ (.inl rfl) e,c⟩,r⟩
 |yX lo hi=>obtain ⟨t,u,v,e⟩:=x;exact ⟨t,u,v,k _ _ (.inl rfl) e⟩
 |lQ ob u ih=>obtain ⟨e,q⟩:=x;exact ⟨k _ _ (.inl rfl) e,ih q⟩
 |O7 ps=>
  have e:h.get? a=some {cls:= .none,data:= .fields ps}:=x;show h'.get? a=some {cls:= .none,data:= .fields ps};exact k a _ (.inl rfl) e
 |met f y=>
  have e:h.get? a=some (q5 (.ref f) (.ref y)):=x;show h'.get? a=some (q5 (.ref f) (.ref y));exact k a _ (.inl rfl) e
 |ext φ=>obtain ⟨p,⟨o,e⟩,st⟩:=x;exact ⟨st _ _ p λo q=>k _ _ (.inl rfl) q,⟨o,k _ _ (.inl rfl) e⟩,st⟩
def oh.lt (x:oh P w H h) (e:H a=some o):a<h.objs.size:=(x a o e).lt
def oh.fresh (x:oh P w H h) (e:h.objs.size<=a):H a=none:=by
 cases q:H a with
 |none=>rfl
 |some u=>exact absurd (bu (x.lt q) e) (dW _)
def oh.kept (x:oh P w H h) (k: ∀b u,h.get? b=some u->h'.get? b=some u):oh P w H h':=λa o e=>
 (x a o e).gD (λb u _ q=>k b u q) (λ_ q=>q) λ_ _ q=>q
def oh.laid (x:oh P w H h) (k: ∀b u,h.get? b=some u->h'.get? b=some u) (hp:h.objs.size<=a) (new:dZ P w (upd H a o) h' a o):oh P w (upd H a o) h':=λb u e=>by
 have hn:=x.fresh hp;by_cases hb:b=a
 ·subst hb;rw [ak] at e;cases e;exact new
 ·rw [bL hb] at e;exact (x b u e).gD (λc v _ q=>k c v q) (λc q=>by rw [bL (aG q hn)];exact q) λc xs q=>by rw [bL (aG q hn)];exact q
end
def Rd (H:Hp) (a:Addr) (u:HO):Prop:=H a=some u∨∃o,H a=some (.lQ o u)
def Rd.ok {P:adT} {w:adQ} {H:Hp} {h:adO} {a:Addr} {u:HO} (r:Rd H a u) (x:oh P w H h):dZ P w H h a u:=by
 rcases r with r|⟨o,r⟩
 ·exact x a u r
 ·obtain ⟨_,q⟩:=x a _ r;exact q
def OY:Option HO->Prop
 |some (.lst _)=>True
 |some (.dK _)=>True
 |some (.dT _)=>True
 |some (.set _ _)=>True
 |some (.ins _ _ _)=>True
 |some (.ext _)=>True
 |_=>False
section
variable {P:adT} {w:adQ} {H:Hp} {h h':adO} {x e:Addr} {o':HO}
def oh.write (ok:oh P w H h) (mu:OY (H x)) (he:e=x∨H e=some (.own x)) (k: ∀b u,b≠e->h.get? b=some u->h'.get? b=some u) (RJ: ∃u,h'.get? e=some u)
  (new:dZ P w (upd H x o') h' x o'):oh P w (upd H x o') h':=λb u q=>by
 have S8: ∀c y,H c=some (.own y)->c≠x:=λc y r z=>by subst z;rw [r] at mu;exact mu
 have Xt: ∀c xs,H c=some (.tup xs)->c≠x:=λc xs r z=>by subst z;rw [r] at mu;exact mu
 by_cases hb:b=x
 ·subst hb;rw [ak] at q;cases q;exact new
 ·rw [bL hb] at q;by_cases DP:b=e
  ·have q':H b=some (.own x):=by
    rcases he with z|z
    ·exact absurd (DP.trans z) hb
    ·rw [DP];exact z
   rw [q] at q';cases q';obtain ⟨v,hv⟩:=RJ;exact ⟨v,by rw [DP];exact hv⟩
  ·refine (ok b u q).gD (λc v hc r=>k c v ?_ r) (λc r=>by rw [bL (S8 c b r)];exact r) λc xs r=>by rw [bL (Xt c xs r)];exact r
   rcases hc with rfl|hc
   ·exact DP
   ·rintro rfl;rcases he with z|z
    ·exact S8 c b hc z
    ·rw [hc] at z;cases z;exact hb rfl
end
structure Un (fs ex:List Addr) (H H':Hp) (h h':adO):Prop where
 keep: ∀b o,h.get? b=some o->H b=none->b∉fs->b∉ex->h'.get? b=some o
 slot: ∀b o,h.get? b=some o->H b=none->b∈fs->b∉ex->∃sl,h'.get? b=some {o with slots:=sl}
 free: ∀b o,h.get? b=some o->H b=none->b∉ex->H' b=none
 there: ∀b o,h.get? b=some o->b∉ex->∃o',h'.get? b=some o'
 uu: ∀b xs,H b=some (.tup xs)->H' b=some (.tup xs)
 vL: ∀b o u,H b=some (.lQ o u)->H' b=some (.lQ o u)
 yE: ∀b ps,H b=some (.O7 ps)->∃more,H' b=some (.O7 (ps++more))
section
variable {fs UH ex ex':List Addr} {H H1 H2:Hp} {h h1 h2 h':adO} {a x e:Addr} {o:HO}
def Un.any (u:Un fs ex H H1 h h1) {b:Addr} {ob:Obj} (q:h.get? b=some ob) (n:H b=none) (hx:b∉ex): ∃sl,h1.get? b=some {ob with slots:=sl}:=by
 by_cases hb:b∈fs
 ·exact u.slot b ob q n hb hx
 ·exact ⟨ob.slots,u.keep b ob q n hb hx⟩
def Un.kept (k: ∀b u,h.get? b=some u->h'.get? b=some u):Un fs ex H H h h':=
 ⟨λb ob q _ _ _=>k b ob q,λb ob q _ _ _=>⟨ob.slots,k b ob q⟩,λ_ _ _ n _=>n,λb ob q _=>⟨ob,k b ob q⟩,λ_ _ q=>q,λ_ _ _ q=>q,λ_ ps q=>⟨#[],by rw [q];simp⟩⟩
def Un.refl:Un fs ex H H h h:=Un.kept λ_ _ q=>q
def Un.laid (k: ∀b u,h.get? b=some u->h'.get? b=some u) (hp:h.objs.size<=a) (hn:H a=none):Un fs ex H (upd H a o) h h' where
 keep:=λb u q _ _ _=>k b u q
 slot:=λb u q _ _ _=>⟨u.slots,k b u q⟩
 free:=λb u q n _=>by rw [bL (bH (bu (Heap.lt_size q) hp))];exact n
 there:=λb u q _=>⟨u,k b u q⟩
 uu:=λb xs q=>by rw [bL (aG q hn)];exact q
 vL:=λb u xs q=>by rw [bL (aG q hn)];exact q
 yE:=λb ps q=>⟨#[],by rw [bL (aG q hn),q];simp⟩
def Un.write (mu:OY (H x)) (he:e=x∨H e=some (.own x)) (k: ∀b u,b≠e->h.get? b=some u->h'.get? b=some u) (RJ: ∃u,h'.get? e=some u):Un fs ex H (upd H x o) h h':=by
 have hx: ∀b,H b=none->b≠x:=λb n z=>by subst z;rw [n] at mu;exact mu
 have hb: ∀b,H b=none->b≠e:=λb n z=>by
  subst z;rcases he with r|r
  ·exact hx b n r
  ·rw [n] at r;cases r
 have hm: ∀b u,H b=some u->¬OY (some u)->b≠x:=λb u q nm z=>by subst z;rw [q] at mu;exact nm mu
 refine ⟨λb u q n _ _=>k b u (hb b n) q,λb u q n _ _=>⟨u.slots,k b u (hb b n) q⟩,λb u q n _=>by rw [bL (hx b n)];exact n,λb u q _=>?_,
  λb xs q=>by rw [bL (hm b _ q λz=>z)];exact q,λb u xs q=>by rw [bL (hm b _ q λz=>z)];exact q,λb ps q=>⟨#[],by rw [bL (hm b _ q λz=>z),q];simp⟩⟩
 by_cases DP:b=e
 ·subst DP;exact RJ
 ·exact ⟨u,k b u DP q⟩
end
def Vu (h:adO) (H:Hp):List Addr:=(bb h.objs.size).filter λa=>(H a).isSome
def zq (h:adO) (H:Hp):adO:=PySem.W.hideAll h (Vu h H)
def GY (h:adO) (H:Hp):(zq h H).objs.size=h.objs.size:=PySem.W.hideAll_size _ _
def J0 {h:adO} {H:Hp} {b:Addr} {o:Obj} (e:h.get? b=some o) (n:H b=none):(zq h H).get? b=some o:=
 PySem.W.hideAll_get _ e λhm=>by
  have q:(H b).isSome=true:=(au.mp hm).2;rw [n] at q;simp at q
def MU {h:adO} {H:Hp} {b:Addr} {o:Obj} (e:(zq h H).get? b=some o):h.get? b=some o/\H b=none:=by
 have e':h.get? b=some o:=PySem.W.of_hideAll (Vu h H) e;refine ⟨e',?_⟩;cases q:H b with
 |none=>rfl
 |some x=>
  have hm:b∈Vu h H:=au.mpr ⟨bE.mpr (Heap.lt_size e'),by simp [q]⟩;have z:(zq h H).get? b=none:=PySem.W.hideAll_none (Vu h H) hm;rw [z] at e;cases e
end L2
namespace L2
open PySem PySem.Spec PyProof.Rows
structure Mod (K:aa) (mg:Str->Option Value) (base:adO):Prop where
 Tp:K.In base
 glob:base.Ns adX mg
 blt: ∃mb,base.Ns builtinsNs mb/\∀x:Str,x≠"__name__"->mb x=aeD x
 nolimit:base.NoLimit
structure Cx where
 prog:adT
 w:adQ
 K:aa
 mg:Str->Option Value
 base:adO
 A:adW
 N:List Str
 xJ:adN
 Re:Hp
 env:Env
 outer:List Env
 stack:List Env
 ex:List Addr
 fn:Str->Bool
 calm:Bool
 pn:List (Addr×Obj)
 xe:Value->adN->Prop
def Kg (l:List Env):List Addr:=l.filterMap (·.frame)
abbrev Cx.fs (X:Cx):List Addr:=Kg X.outer
def U7 (sc:ad1) (x:Str):Prop:=sc.names.lookup x=some .local∨sc.names.lookup x=some .cell∨sc.names.lookup x=some .free
def Loc (sc:ad1) (x:Str):Prop:=sc.names.lookup x=some .local∨sc.names.lookup x=some .cell
def Look (env:Env) (h:adO) (m:Str->Option Value) (x:Str) (u:Value):Prop:=
 (env.kindOf x=some .local/\m x=some u)∨((env.kindOf x=some .cell∨env.kindOf x=some .free)/\∃c,env.cells.lookup x=some c/\h.IsCell c (some u))
structure Cx.Ok (X:Cx):Prop where
 mod:Mod X.K X.mg X.base
 kind:X.env.scope.kind= .function
 glob:X.env.globals=adX
 blt:X.env.builtins=builtinsNs
 above:X.xJ.heap.objs.size<=X.env.locals
 inj: ∀x y c,X.env.cells.lookup x=some c->X.env.cells.lookup y=some c->x=y
 has: ∀x,(X.env.kindOf x=some .cell∨X.env.kindOf x=some .free)->∃c,X.env.cells.lookup x=some c
 U3: ∀x c,X.fn x=true->X.env.cells.lookup x=some c->X.xJ.heap.objs.size<=c
 hd:X.calm=true->X.A.handled=none
 frames:X.A.frames=some X.stack
 Vx:X.stack=X.outer∨(X.stack=X.env::X.outer/\X.env.frame=some X.env.locals)
 Wb: ∀b∈X.ex,b≠X.env.locals/\∀x c,X.env.cells.lookup x=some c->c≠b
 bs: ∀b o,X.base.get? b=some o->X.xJ.heap.get? b=some o/\X.Re b=none
 NV:X.base.objs.size<=X.xJ.heap.objs.size
 JD: ∀b o,X.base.get? b=some o->b∉X.ex
 KZ: ∀b∈X.ex,b∉X.fs
 tw:X.xJ.heap.FunFrames X.base X.outer
 QD: ∀b∈X.fs,X.Re b=none
structure Inv (X:Cx) (pins:List (Addr×Obj)) (σ:List (Option V)) (H:Hp) (s:adN):Prop where
 ok:X.Ok
 os:s.os=X.xJ.os
 bare:AllBare s.gens
 base:Un X.fs X.ex X.Re H X.xJ.heap s.heap
 loc: ∃m,s.heap.Ns X.env.locals m/\∀(i:Nat) (x:Str) (v:V),X.N[i]?=some x->σ[i]?=some (some v)->U7 X.env.scope x->∃u,RelV v u/\Look X.env s.heap m x u
 cell: ∀x c,X.env.cells.lookup x=some c->∃v,s.heap.IsCell c v
 free:H X.env.locals=none
 lm: ∀x c,X.env.cells.lookup x=some c->H c=none
 pin: ∀p∈X.pn++pins,s.heap.get? p.1=some p.2/\H p.1=none/\p.1≠X.env.locals/\p.1∉X.fs/\∀v,p.2.data≠ .cell v
 cO:oh X.prog X.w H s.heap
 len:σ.length=X.N.length
section
variable {X:Cx} {pins:List (Addr×Obj)} {σ:List (Option V)} {H H':Hp} {s:adN} {h':adO}
def Cx.Ok.Xx (ok:X.Ok) {b:Addr} {o:Obj} (e:X.base.get? b=some o):b∉X.fs:=λhb=>by
 have:=(ok.tw.mem hb).1;rw [e] at this;cases this
def Inv.bs (I:Inv X pins σ H s): ∀b o,X.base.get? b=some o->s.heap.get? b=some o/\H b=none:=λb o e=>
 ⟨I.base.keep b o (I.ok.bs b o e).1 (I.ok.bs b o e).2 (I.ok.Xx e) (I.ok.JD b o e),I.base.free b o (I.ok.bs b o e).1 (I.ok.bs b o e).2 (I.ok.JD b o e)⟩
def Inv.bk (I:Inv X pins σ H s): ∀b o,X.base.get? b=some o->s.heap.get? b=some o:=λb o e=>(I.bs b o e).1
def Inv.mod (I:Inv X pins σ H s):Mod X.K X.mg X.base:=I.ok.mod
def Inv.Fe (I:Inv X pins σ H s):X.K.In s.heap:=I.ok.mod.Tp.keeps I.bk
def Inv.lt (I:Inv X pins σ H s):X.env.locals<s.heap.objs.size:=let ⟨_,hn,_⟩:=I.loc;hn.lt
def Inv.sz (I:Inv X pins σ H s):X.xJ.heap.objs.size<=s.heap.objs.size:=aV I.ok.above (j8 I.lt)
def Inv.Xw (I:Inv X pins σ H s) {a:Addr} (h:s.heap.objs.size<=a):a∉X.fs:=λhb=>by
 obtain ⟨_,o,ho,_⟩:=I.ok.tw.mem hb;exact absurd (bu (Heap.lt_size ho) (aV I.sz h)) (dW _)
def Inv.Q0 (I:Inv X pins σ H s): ∀x c,X.env.cells.lookup x=some c->c≠X.env.locals:=λx c e z=>by
 obtain ⟨v,o,ho,hd⟩:=I.cell x c e;obtain ⟨m,⟨o',es,ep,Cr,YB,_⟩,_⟩:=I.loc;rw [z,Cr] at ho;cases ho;rw [YB] at hd;cases hd
def Inv.tw (I:Inv X pins σ H s):s.heap.FunFrames X.base X.outer:=by
 have all: ∀(l:List Env),(∀b∈Kg l,b∈X.fs)->X.xJ.heap.FunFrames X.base l->s.heap.FunFrames X.base l:=by
  intro l;induction l with
  |nil=>intro _ _;trivial
  |cons env r ih=>
   intro hs hl;obtain ⟨hk,⟨L,o,hf,hn,ho,hd⟩,hr⟩:=hl;have hL:L∈X.fs:=hs L (by unfold Kg;rw [db,hf];exact aM);obtain ⟨sl,e⟩:=I.base.slot L o ho (I.ok.QD L hL) hL λz=>I.ok.KZ L z hL;exact ⟨hk,⟨L,_,hf,hn,e,hd⟩,ih (λb hb=>hs b (by unfold Kg;rw [db,hf];exact aF _ hb)) hr⟩
 exact all X.outer (λ_ hb=>hb) I.ok.tw
def Inv.stack (I:Inv X pins σ H s):s.heap.FunFrames X.base X.stack:=by
 rcases I.ok.Vx with e|⟨e,hf⟩
 ·rw [e];exact I.tw
 ·rw [e];obtain ⟨m,hn,_⟩:=I.loc;refine .cons (by rw [I.ok.kind];decide) hf hn ?_ I.tw;exact Heap.get?_none_of_le (aV I.ok.NV I.ok.above)
def Inv.CT (I:Inv X pins σ H s): ∀b∈Kg X.stack,b∈X.env.locals::X.fs:=λb hb=>by
 rcases I.ok.Vx with e|⟨e,hf⟩
 ·rw [e] at hb;exact aF _ hb
 ·rw [e] at hb;unfold Kg at hb;rw [db,hf] at hb;exact hb
def Inv.Es (I:Inv X pins σ H s): ∀b∈Kg X.stack,H b=none:=λb hb=>by
 rcases aD.mp (I.CT b hb) with e|hb
 ·rw [e];exact I.free
 ·obtain ⟨_,o,ho,_⟩:=I.ok.tw.mem hb;exact I.base.free b o ho (I.ok.QD b hb) λz=>I.ok.KZ b z hb
def Inv.step {g':Array GenState} {t':Nat} {d':Drawn} {ch:List Addr} (I:Inv X pins σ H s)
  (zY: ∀b∈ch,(b∈X.ex∨X.xJ.heap.objs.size<=b)/\b≠X.env.locals/\(∀x c,X.env.cells.lookup x=some c->c≠b)/\∀p∈X.pn++pins,p.1≠b)
  (keep: ∀b o,b≠X.env.locals->b∉X.fs->b∉ch->s.heap.get? b=some o->H b=none->h'.get? b=some o)
  (slot: ∀b o,b≠X.env.locals->b∈X.fs->b∉ch->s.heap.get? b=some o->H b=none->∃sl,h'.get? b=some {o with slots:=sl}) (free: ∀b o,b∉ch->s.heap.get? b=some o->H b=none->H' b=none)
  (there: ∀b o,b∉ch->s.heap.get? b=some o->∃o',h'.get? b=some o')
  (uu: ∀b xs,H b=some (.tup xs)->H' b=some (.tup xs)) (vL: ∀b o u,H b=some (.lQ o u)->H' b=some (.lQ o u)) (yE: ∀b ps,H b=some (.O7 ps)->∃more,H' b=some (.O7 (ps++more)))
  (ns: ∀m,s.heap.Ns X.env.locals m->h'.Ns X.env.locals m) (cO:oh X.prog X.w H' h') (hg:AllBare g'):
  Inv X pins σ H' {s with heap:=h',gens:=g',drawn:=d',toks:=t'}:=by
 have Zx: ∀b o,X.xJ.heap.get? b=some o->b≠X.env.locals:=λb o e=>bH (bu (Heap.lt_size e) I.ok.above);have VG: ∀b o,X.xJ.heap.get? b=some o->b∉X.ex->b∉ch:=λb o e hx hb=>by
  rcases (zY b hb).1 with z|z
  ·exact hx z
  ·exact absurd (bu (Heap.lt_size e) z) (dW _)
 have cellK: ∀x c,X.env.cells.lookup x=some c->∀v,s.heap.IsCell c v->h'.IsCell c v:=λx c e v ⟨o,ho,hd⟩=>by
  have Td:c∉ch:=λz=>(zY c z).2.2.1 x c e rfl;by_cases hc:c∈X.fs
  ·obtain ⟨sl,q⟩:=slot c o (I.Q0 x c e) hc Td ho (I.lm x c e);exact ⟨_,q,hd⟩
  ·exact ⟨o,keep c o (I.Q0 x c e) hc Td ho (I.lm x c e),hd⟩
 refine ⟨I.ok,I.os,hg,⟨λb o e n hb hx=>?_,λb o e n hb hx=>?_,λb o e n hx=>?_,λb o e hx=>?_,λb xs e=>uu b xs (I.base.uu b xs e),λb o xs e=>vL b o xs (I.base.vL b o xs e),λb ps e=>?_⟩,?_,λx c e=>?_,?_,λx c e=>?_,λp hp=>?_,cO,I.len⟩
 ·exact keep b o (Zx b o e) hb (VG b o e hx) (I.base.keep b o e n hb hx) (I.base.free b o e n hx)
 ·obtain ⟨sl,e1⟩:=I.base.slot b o e n hb hx;obtain ⟨sl',e2⟩:=slot b _ (Zx b o e) hb (VG b o e hx) e1 (I.base.free b o e n hx);exact ⟨sl',e2⟩
 ·obtain ⟨o',e1⟩:=I.base.there b o e hx;exact free b o' (VG b o e hx) e1 (I.base.free b o e n hx)
 ·obtain ⟨o',e1⟩:=I.base.there b o e hx;exact there b o' (VG b o e hx) e1
 ·obtain ⟨m1,e1⟩:=I.base.yE b ps e;obtain ⟨m2,e2⟩:=yE b _ e1;exact ⟨m1++m2,by rw [e2,Array.append_assoc]⟩
 ·obtain ⟨m,hn,hl⟩:=I.loc;refine ⟨m,ns m hn,λi x v e1 e2 e3=>?_⟩;obtain ⟨u,r,l⟩:=hl i x v e1 e2 e3;refine ⟨u,r,?_⟩;rcases l with l|⟨k,c,e,z⟩
  ·exact .inl l
  ·exact .inr ⟨k,c,e,cellK x c e _ z⟩
 ·obtain ⟨v,z⟩:=I.cell x c e;exact ⟨v,cellK x c e v z⟩
 ·obtain ⟨m,⟨o,_,_,ho,_⟩,_⟩:=I.loc;exact free _ o (λz=>(zY _ z).2.1 rfl) ho I.free
 ·obtain ⟨v,o,ho,hd⟩:=I.cell x c e;exact free c o (λz=>(zY c z).2.2.1 x c e rfl) ho (I.lm x c e)
 ·obtain ⟨e,n,ne,nf,d⟩:=I.pin p hp;have Td:p.1∉ch:=λz=>(zY p.1 z).2.2.2 p hp rfl;exact ⟨keep p.1 p.2 ne nf Td e n,free p.1 p.2 Td e n,ne,nf,d⟩
def Inv.un {t':Nat} (I:Inv X pins σ H s) (u:Un X.fs [] H H' s.heap h') (cO:oh X.prog X.w H' h'):Inv X pins σ H' {s with heap:=h',toks:=t'}:=by
 obtain ⟨m,⟨o,es,ep,ho,r⟩,_⟩:=id I.loc;obtain ⟨sl,hL⟩:=u.any ho I.free (by simp);exact I.step (g':=s.gens) (d':=s.drawn) (ch:= []) (λ_ z=>nomatch z) (λb o _ hb _ e n=>u.keep b o e n hb (by simp)) (λb o _ hb _ e n=>u.slot b o e n hb (by simp)) (λb o _ e n=>u.free b o e n (by simp)) (λb o _ e=>u.there b o e (by simp)) u.uu u.vL u.yE (λm' hm=>by
  obtain ⟨o',OP,OQ,Cr,r'⟩:=hm;rw [ho] at Cr;cases Cr;exact ⟨_,OP,OQ,hL,r'⟩) cO I.bare
def Inv.call {g':Array GenState} {t':Nat} {d':Drawn} {ch:List Addr} (I:Inv X pins σ H s) (u:Un (Kg X.stack) ch H H' s.heap h') (cO:oh X.prog X.w H' h') (hg:AllBare g')
  (zY: ∀b∈ch,(b∈X.ex∨X.xJ.heap.objs.size<=b)/\b≠X.env.locals/\(∀x c,X.env.cells.lookup x=some c->c≠b)/\∀p∈X.pn++pins,p.1≠b):
  Inv X pins σ H' {s with heap:=h',gens:=g',drawn:=d',toks:=t'}:=by
 obtain ⟨m,⟨o,es,ep,ho,r⟩,_⟩:=id I.loc;obtain ⟨sl,hL⟩:=u.any ho I.free λz=>(zY _ z).2.1 rfl;exact I.step (ch:=ch) zY (λb o hL hb hc e n=>u.keep b o e n (λz=>(aD.mp (I.CT b z)).elim hL hb) hc) (λb o _ _ hc e n=>u.any e n hc) (λb o hc e n=>u.free b o e n hc) (λb o hc e=>u.there b o e hc) u.uu u.vL u.yE (λm' hm=>by
  obtain ⟨o',OP,OQ,Cr,r'⟩:=hm;rw [ho] at Cr;cases Cr;exact ⟨_,OP,OQ,hL,r'⟩) cO hg
def Inv.turned {t':Nat} {it:Addr} (I:Inv X pins σ H s) (k: ∀b o,b≠it->s.heap.get? b=some o->h'.get? b=some o) (hn:H it=none) (hL:it≠X.env.locals)
  (h1:it∈X.ex∨X.xJ.heap.objs.size<=it) (h2: ∀x c,X.env.cells.lookup x=some c->c≠it) (h3: ∀p∈X.pn++pins,p.1≠it):Inv X pins σ H {s with heap:=h',toks:=t'}:=by
 have Ot: ∀b u,H b=some u->b≠it:=λb u e z=>by rw [z,hn] at e;cases e
 refine I.step (g':=s.gens) (d':=s.drawn) (ch:= [it]) (λb hb=>?_) (λb o _ _ hc e _=>k b o (λz=>hc (by simp [z])) e) (λb o _ _ hc e _=>⟨o.slots,k b o (λz=>hc (by simp [z])) e⟩) (λ_ _ _ _ n=>n)
  (λb o hc e=>⟨o,k b o (λz=>hc (by simp [z])) e⟩) (λ_ _ e=>e) (λ_ _ _ e=>e) (λb ps e=>⟨#[],by rw [e];simp⟩) (λm hm=>?_) (λb u e=>?_) I.bare
 ·have e:b=it:=by simpa using hb
  subst e;exact ⟨h1,hL,h2,h3⟩
 ·obtain ⟨o,es,ep,ho,r⟩:=hm;exact ⟨o,es,ep,k _ o (fz hL) ho,r⟩
 ·refine (I.cO b u e).gD (λc v hc q=>k c v ?_ q) (λ_ q=>q) λ_ _ q=>q;rcases hc with z|z
  ·rw [z];exact Ot b u e
  ·exact Ot c _ z
def Inv.tok (I:Inv X pins σ H s) (t:Nat):Inv X pins σ H {s with toks:=t}:=I.un (h':=s.heap) (t':=t) Un.refl I.cO
def Inv.kept {t':Nat} (I:Inv X pins σ H s) (k: ∀b u,s.heap.get? b=some u->h'.get? b=some u):Inv X pins σ H {s with heap:=h',toks:=t'}:=I.un (Un.kept k) (I.cO.kept k)
def Inv.laid {a:Addr} {o:HO} {t':Nat} (I:Inv X pins σ H s) (k: ∀b u,s.heap.get? b=some u->h'.get? b=some u) (hp:s.heap.objs.size<=a) (new:dZ X.prog X.w (upd H a o) h' a o):
  Inv X pins σ (upd H a o) {s with heap:=h',toks:=t'}:=I.un (Un.laid k hp (I.cO.fresh hp)) (I.cO.laid k hp new)
def Inv.write {x e:Addr} {o:HO} {t':Nat} (I:Inv X pins σ H s) (mu:OY (H x)) (he:e=x∨H e=some (.own x)) (k: ∀b u,b≠e->s.heap.get? b=some u->h'.get? b=some u) (RJ: ∃u,h'.get? e=some u)
  (new:dZ X.prog X.w (upd H x o) h' x o):Inv X pins σ (upd H x o) {s with heap:=h',toks:=t'}:=I.un (Un.write mu he k RJ) (I.cO.write mu he k RJ new)
def Inv.weak {eX:List (Option V)} (I:Inv X pins σ H s) (hl:eX.length=σ.length) (w: ∀(i:Nat) v,eX[i]?=some (some v)->σ[i]?=some (some v)):Inv X pins eX H s:=
 ⟨I.ok,I.os,I.bare,I.base,let ⟨m,hn,hl'⟩:=I.loc;⟨m,hn,λi x v e1 e2 e3=>hl' i x v e1 (w i v e2) e3⟩,I.cell,I.free,I.lm,I.pin,I.cO,hl.trans I.len⟩
def Inv.EW {Oo:List (Addr×Obj)} (I:Inv X pins σ H s) (h: ∀p∈Oo,s.heap.get? p.1=some p.2/\H p.1=none/\p.1≠X.env.locals/\p.1∉X.fs/\∀v,p.2.data≠ .cell v):Inv X Oo σ H s:=
 ⟨I.ok,I.os,I.bare,I.base,I.loc,I.cell,I.free,I.lm,λp hp=>(bG.mp hp).elim (λz=>I.pin p (cT _ z)) (h p),I.cO,I.len⟩
def vh {N:List Str} (hN:N.Nodup) {i j:Nat} {x:Str} (a:N[i]?=some x) (b:N[j]?=some x):i=j:=by
 obtain ⟨h1,e1⟩:=aK.mp a;obtain ⟨h2,e2⟩:=aK.mp b;exact (List.getElem_inj hN).mp (e1.trans e2.symm)
def xA {M:Model} {A:adW} {E:Value->adN->Prop} {i:Nat} {x:Str} {v:V} {u:Value} {Q:Unit->adN->Prop} (I:Inv X pins σ H s) (hN:X.N.Nodup) (hi:X.N[i]?=some x) (hx:Loc X.env.scope x) (r:RelV v u)
  (h: ∀s',Inv X pins (σ.set i (some v)) H s'->(∃a,Heap.SameBut a s.heap s'.heap/\(a=X.env.locals∨X.env.cells.lookup x=some a))->Q () s') (hf:X.fn x=true∨X.env.scope.names.lookup x=some .local:=by first|exact .inl rfl|exact .inr rfl|assumption):wpAny M A (storeName X.env x u) Q E s:=by
 obtain ⟨m,hn,hl⟩:=id I.loc;have YD:(X.env.scope.kind== .class||(X.env.scope.kind== .module&&X.env.locals !=X.env.globals))=false:=by rw [I.ok.kind];rfl
 have Uo:i<σ.length:=by rw [I.len];exact (aK.mp hi).1
 have Q0:=I.Q0;have tracked: ∀{a:Addr} {h':adO},(∃o,s.heap.get? a=some o/\H a=none)->Heap.SameBut a s.heap h'->oh X.prog X.w H h':=λ{a h'} ha hs b ob e=>by
  obtain ⟨_,_,ya⟩:=ha;refine (I.cO b ob e).gD (λc w' hc q=>(hs.2 c ?_).trans q) (λ_ q=>q) λ_ _ q=>q;rintro rfl;rcases hc with rfl|hc
  ·rw [ya] at e;cases e
  ·rw [ya] at hc;cases hc
 rcases hx with hk|hk
 ·refine wpAny_storeName_local hk hn (λh' VS hs=>?_) YD;obtain ⟨oL,_,_,T7,_⟩:=id hn;refine h _ ⟨I.ok,I.os,I.bare,⟨λb o e n hb hx=>?_,λb o e n hb hx=>?_,I.base.free,λb o e hx=>?_,I.base.uu,I.base.vL,I.base.yE⟩,⟨_,VS,λj y v' e1 e2 e3=>?_⟩,λy c e=>?_,I.free,I.lm,λp hp=>?_,tracked ⟨oL,T7,I.free⟩ hs,by simpa using I.len⟩ ⟨_,hs, .inl rfl⟩
  ·exact (hs.2 b (bH (bu (Heap.lt_size e) I.ok.above))).trans (I.base.keep b o e n hb hx)
  ·obtain ⟨sl,e1⟩:=I.base.slot b o e n hb hx;exact ⟨sl,(hs.2 b (bH (bu (Heap.lt_size e) I.ok.above))).trans e1⟩
  ·obtain ⟨o',e1⟩:=I.base.there b o e hx;exact ⟨o',(hs.2 b (bH (bu (Heap.lt_size e) I.ok.above))).trans e1⟩
  ·by_cases hj:j=i
   ·subst hj;rw [hi] at e1;cases e1;rw [m9 Uo] at e2;cases e2;exact ⟨u,r, .inl ⟨hk,by simp⟩⟩
   ·rw [pq (fz hj)] at e2;obtain ⟨u',r',q⟩:=hl j y v' e1 e2 e3;refine ⟨u',r',?_⟩;rcases q with ⟨k,e⟩|⟨k,c,e,z⟩
    ·refine .inl ⟨k,?_⟩;have:y≠x:=λe=>hj (vh hN e1 (e▸hi));simp [this,e]
    ·exact .inr ⟨k,c,e,z.sameBut hs (Q0 y c e)⟩
  ·obtain ⟨w',z⟩:=I.cell y c e;exact ⟨w',z.sameBut hs (Q0 y c e)⟩
  ·obtain ⟨e,n,ne,nf,d⟩:=I.pin p hp;exact ⟨(hs.2 p.1 ne).trans e,n,ne,nf,d⟩
 ·have Yw:X.fn x=true:=by
   rcases hf with z|z
   ·exact z
   ·rw [z] at hk;cases hk
  obtain ⟨c,hc⟩:=I.ok.has x (.inl hk);obtain ⟨w',z⟩:=I.cell x c hc;refine wpAny_storeName_cell I.ok.kind hk hc z (λh' hc' hs=>?_);obtain ⟨oc,ZY,Yc⟩:=id z;refine h {s with heap:=h'} ⟨I.ok,I.os,I.bare,⟨λb o e n hb hx=>?_,λb o e n hb hx=>?_,I.base.free,λb o e hx=>?_,I.base.uu,I.base.vL,I.base.yE⟩,⟨m,hn.sameBut hs (fz (Q0 x c hc)),λj y v' e1 e2 e3=>?_⟩,λy c' e=>?_,I.free,I.lm,λp hp=>?_,tracked ⟨oc,ZY,I.lm x c hc⟩ hs,by simpa using I.len⟩ ⟨c,hs, .inr hc⟩
  ·exact (hs.2 b (bH (bu (Heap.lt_size e) (I.ok.U3 x c Yw hc)))).trans (I.base.keep b o e n hb hx)
  ·obtain ⟨sl,e1⟩:=I.base.slot b o e n hb hx;exact ⟨sl,(hs.2 b (bH (bu (Heap.lt_size e) (I.ok.U3 x c Yw hc)))).trans e1⟩
  ·obtain ⟨o',e1⟩:=I.base.there b o e hx;exact ⟨o',(hs.2 b (bH (bu (Heap.lt_size e) (I.ok.U3 x c Yw hc)))).trans e1⟩
  ·by_cases hj:j=i
   ·subst hj;rw [hi] at e1;cases e1;rw [m9 Uo] at e2;cases e2;exact ⟨u,r, .inr ⟨.inl hk,c,hc,hc'⟩⟩
   ·rw [pq (fz hj)] at e2;obtain ⟨u',r',q⟩:=hl j y v' e1 e2 e3;refine ⟨u',r',?_⟩;rcases q with q|⟨k,c',e,z'⟩
    ·exact .inl q
    ·refine .inr ⟨k,c',e,z'.sameBut hs ?_⟩;rintro rfl;exact hj (vh hN e1 (I.ok.inj _ _ _ e hc▸hi))
  ·by_cases nL:c'=c
   ·subst nL;exact ⟨_,hc'⟩
   ·obtain ⟨w2,z2⟩:=I.cell y c' e;exact ⟨w2,z2.sameBut hs nL⟩
  ·obtain ⟨e,n,ne,nf,d⟩:=I.pin p hp;refine ⟨(hs.2 p.1 ?_).trans e,n,ne,nf,d⟩;intro q;rw [q,ZY] at e;have q':oc=p.2:=bx e;exact d w' (by rw [<-q'];exact Yc)
def Aj {M:Model} {A:adW} {E:Value->adN->Prop} {i:Nat} {x:Str} {v:V} {u:Value} {Q:Unit->adN->Prop} (I:Inv X pins σ H s) (hN:X.N.Nodup) (hi:X.N[i]?=some x) (hx:Loc X.env.scope x) (r:RelV v u)
  (h: ∀s',Inv X pins (σ.set i (some v)) H s'->Q () s') (hf:X.fn x=true∨X.env.scope.names.lookup x=some .local:=by first|exact .inl rfl|exact .inr rfl|assumption):wpAny M A (storeName X.env x u) Q E s:=
 xA I hN hi hx r (λs' I' _=>h s' I') hf
def Inv.U2 {s':adN} {ch:List Addr} (I:Inv X pins σ H s) (ho:s'.os=s.os) (u:Un (Kg X.stack) ch H H' s.heap s'.heap) (cO:oh X.prog X.w H' s'.heap) (hg:AllBare s'.gens)
  (zY: ∀b∈ch,(b∈X.ex∨X.xJ.heap.objs.size<=b)/\b≠X.env.locals/\(∀x c,X.env.cells.lookup x=some c->c≠b)/\∀p∈X.pn++pins,p.1≠b):Inv X pins σ H' s':=by
 obtain ⟨h',g',d',t',o'⟩:=s';have e:o'=s.os:=ho;subst e;exact I.call (g':=g') (t':=t') (d':=d') u cO hg zY
end
abbrev XK:=Value->Option Addr->Hp->Prop
abbrev St:=List (Option V)
abbrev VK:=V->Hp->Prop
abbrev TE:=St->Hp->VK->Prop
abbrev TT:=St->Hp->(Bool->Hp->Prop)->Prop
abbrev TA:=St->Hp->(List V->Hp->Prop)->Prop
structure Ends where
 nx:St->Hp->Prop
 rt:VK
 bk:St->Hp->Prop:=λ_ _=>False
 ct:St->Hp->Prop:=λ_ _=>False
abbrev TS:=Ends->St->Hp->Prop
def EP (X:Cx) (pins:List (Addr×Obj)) (σ:St) (Q:VK) (u:Value) (s':adN):Prop:= ∃v H',Inv X pins σ H' s'/\RelV v u/\Q v H'
def TP (X:Cx) (pins:List (Addr×Obj)) (σ:St) (Q:Bool->Hp->Prop) (b:Bool) (s':adN):Prop:= ∃H',Inv X pins σ H' s'/\Q b H'
def AP (X:Cx) (pins:List (Addr×Obj)) (σ:St) (Q:List V->Hp->Prop) (us:List Value) (s':adN):Prop:= ∃vs H',Inv X pins σ H' s'/\Vals vs us/\Q vs H'
def SP (X:Cx) (pins:List (Addr×Obj)) (D:Ends) (f:Flow) (s':adN):Prop:=
 match f with
 | .next=> ∃eX H',Inv X pins eX H' s'/\D.nx eX H'
 | .brk=> ∃eX H',Inv X pins eX H' s'/\D.bk eX H'
 | .cont=> ∃eX H',Inv X pins eX H' s'/\D.ct eX H'
 | .ret u=> ∃v eX H',Inv X pins eX H' s'/\RelV v u/\D.rt v H'
def PE (X:Cx) (e:adS) (t:TE):Prop:=
 ∀(pins:List (Addr×Obj)) (s:adN) (σ:St) (H:Hp) (Q:VK),Inv X pins σ H s->t σ H Q->wpAny (adR X.prog X.w) X.A (eval e X.env) (EP X pins σ Q) X.xe s
def PT (X:Cx) (e:adS) (t:TT):Prop:=
 ∀(pins:List (Addr×Obj)) (s:adN) (σ:St) (H:Hp) (Q:Bool->Hp->Prop),Inv X pins σ H s->t σ H Q->wpAny (adR X.prog X.w) X.A (isTrue e X.env (eval e X.env)) (TP X pins σ Q) X.xe s
def PW (X:Cx) (e:adS) (t:TT):Prop:=
 ∀(whole:Sem Value) (pins:List (Addr×Obj)) (s:adN) (σ:St) (H:Hp) (Q:Bool->Hp->Prop),Inv X pins σ H s->t σ H Q->wpAny (adR X.prog X.w) X.A (isTrue e X.env whole) (TP X pins σ Q) X.xe s
def PW.pt {X:Cx} {e:adS} {t:TT} (h:PW X e t):PT X e t:=h _
def PA (X:Cx) (es:List adS) (t:TA):Prop:=
 ∀(pos:Pos) (pins:List (Addr×Obj)) (s:adN) (σ:St) (H:Hp) (Q:List V->Hp->Prop),Inv X pins σ H s->t σ H Q->wpAny (adR X.prog X.w) X.A (spliced (ad2 pos (adU es X.env))) (AP X pins σ Q) X.xe s
def PS (X:Cx) (st:adZ) (t:TS):Prop:=
 ∀(pins:List (Addr×Obj)) (s:adN) (σ:St) (H:Hp) (D:Ends),Inv X pins σ H s->t D σ H->wpAny (adR X.prog X.w) X.A (exec st X.env) (SP X pins D) X.xe s
def HI (X:Cx) (st:List adZ) (t:TS):Prop:=
 ∀(pins:List (Addr×Obj)) (s:adN) (σ:St) (H:Hp) (D:Ends),Inv X pins σ H s->t D σ H->wpAny (adR X.prog X.w) X.A (execs st X.env) (SP X pins D) X.xe s
def dJ {α:Type} {t:Sem α} {Q Q':α->adN->Prop} {M:Model} {A:adW} {E:Value->adN->Prop} {s:adN} (h:wpAny M A t Q E s) (hQ: ∀a s,Q a s->Q' a s):wpAny M A t Q' E s:=wpAny_mono h hQ λ_ _ x=>x
end L2
namespace L2
open PySem PySem.Spec PyProof.Rows
section
variable {X:Cx}
def yF (i:Nat):TE:=λσ H Q=> ∃v,σ[i]?=some (some v)/\Q v H
def tC (v:V):TE:=λ_ H Q=>Q v H
def Py {i:Nat} {x:Str} {pos:Pos} (hN:X.N[i]?=some x) (hv:U7 X.env.scope x) (hd:(x==("__debug__" :Str))=false:=by decide) (G0:(x==("__classdict__" :Str))=false:=by decide):PE X (.Name x pos) (yF i):=by
 intro pins s σ H Q I h;obtain ⟨v,e,h⟩:=h;obtain ⟨m,hn,hl⟩:=I.loc;obtain ⟨u,r,l⟩:=hl i x v hN e hv;have fin:EP X pins σ Q u s:=⟨v,H,I,r,h⟩
 rcases l with ⟨hk,hm⟩|⟨hk,c,hc,OF⟩
 ·exact wpAny_Name (wpAny_loadName_local I.ok.kind hk hn hm fin) hd
 ·rcases hk with hk|hk
  ·exact wpAny_Name (wpAny_loadName_cell I.ok.kind hk hc OF fin) hd
  ·exact wpAny_Name (wpAny_loadName_free I.ok.kind hk hc OF fin G0) hd
def aE {i j pos}:PE X (.Constant (.int i) j pos) (tC (.int i)):=λ_ _ _ H _ I h=>wpAny_Constant_int ⟨.int i,H,I.tok _,⟨_,rfl⟩,h⟩
def iE {b j pos}:PE X (.Constant (.bool b) j pos) (tC (.bl b)):=λ_ _ _ H _ I h=>Constant_bool ⟨.bl b,H,I,rfl,h⟩
def l8 {j pos}:PE X (.Constant .none j pos) (tC .fY):=λ_ _ _ H _ I h=>Constant_none ⟨.fY,H,I,rfl,h⟩
def Gl (X:Cx) (x:Str):Prop:=X.env.kindOf x=some .globalImplicit
def t6 {E:Value->adN->Prop} {pins:List (Addr×Obj)} {s:adN} {σ:St} {H:Hp} {x:Str} {u:Value} {pos:Pos} {Q:Value->adN->Prop} (I:Inv X pins σ H s) (hg:Gl X x) (hm:X.mg x=some u) (h:Q u s)
  (hd:(x==("__debug__" :Str))=false:=by decide):wpAny (adR X.prog X.w) X.A (eval (.Name x pos) X.env) Q E s:=
 Calls.Name_function_global I.ok.kind hg (Calls.loadGlobal_global (by rw [I.ok.glob];exact I.mod.glob.keeps I.bk) hm h) hd
def mj {E:Value->adN->Prop} {pins:List (Addr×Obj)} {s:adN} {σ:St} {H:Hp} {x:Str} {u:Value} {pos:Pos} {Q:Value->adN->Prop} (I:Inv X pins σ H s) (hg:Gl X x) (hm:X.mg x=none) (hv:aeD x=some u) (h:Q u s)
  (hn:x≠"__name__" :=by decide) (hd:(x==("__debug__" :Str))=false:=by decide):wpAny (adR X.prog X.w) X.A (eval (.Name x pos) X.env) Q E s:=by
 obtain ⟨mb,h1,h2⟩:=I.mod.blt;exact Calls.Name_function_global I.ok.kind hg (Calls.loadGlobal_builtin (by rw [I.ok.glob];exact I.mod.glob.keeps I.bk) hm (by rw [I.ok.blt];exact h1.keeps I.bk) ((h2 x hn).trans hv) h) hd
def EZ {x:Str} {v:V} {u:Value} {pos:Pos} (hg:Gl X x) (hm:X.mg x=some u) (r:RelV v u) (hd:(x==("__debug__" :Str))=false:=by decide):PE X (.Name x pos) (tC v):=
 λ_ _ _ H _ I h=>t6 I hg hm ⟨v,H,I,r,h⟩ hd
variable {a b:adS} {ta tb:TE} {pos:Pos}
def PC (X:Cx) (op:CmpOp) (a b:adS) (t:TE):Prop:=
 ∀(pins:List (Addr×Obj)) (s:adN) (σ:St) (H:Hp) (Q:VK),Inv X pins σ H s->t σ H Q->
  wpAny (adR X.prog X.w) X.A (eval a X.env) (λv dG=>wpAny (adR X.prog X.w) X.A (eval b X.env) (λu kF=>wpAny (adR X.prog X.w) X.A (ad6 op v u) (EP X pins σ Q) X.xe kF) X.xe dG) X.xe s
def Ba (b:adS) {op:CmpOp} (h:op≠ .In) (h2:op≠ .NotIn):aej op b=false:=by
 have e1:(op==CmpOp.In)=false:=by cases op<;>first|rfl|exact absurd rfl h
 have e2:(op==CmpOp.NotIn)=false:=by cases op<;>first|rfl|exact absurd rfl h2
 cases b<;>simp [aej,e1,e2]
def WR (ta:TE):TE:=λσ H Q=>ta σ H λx H1=>Q (.bl (decide (x= .fY))) H1
def Sa (ta:TE):TE:=λσ H Q=>ta σ H λx H1=>Q (.bl (!decide (x= .fY))) H1
def RelV.A9 {x:V} {v:Value} (r:RelV x v):(v==Value.none)=decide (x= .fY):=by
 cases x with
 |fY=>cases r;rfl
 |bl _=>cases r;rfl
 |int _=>obtain ⟨t,rfl⟩:=r;rfl
 |str _=>obtain ⟨t,rfl⟩:=r;rfl
 |zF _=>obtain ⟨t,rfl⟩:=r;rfl
 |UQ _=>obtain ⟨t,rfl⟩:=r;rfl
 |ref _=>cases r;rfl
 |ty _=>cases r;rfl
def jM {j pos'} (ha:PE X a ta):PC X .Is a (.Constant .none j pos') (WR ta):=by
 intro pins s σ H Q I h;refine dJ (ha pins s σ H _ I h) λv s1 ⟨x,H1,I1,r1,q1⟩=>?_;exact Constant_none (is_none_gen ⟨.bl _,H1,I1,by rw [r1.A9];rfl,q1⟩)
def E1 {j pos'} (ha:PE X a ta):PC X .IsNot a (.Constant .none j pos') (Sa ta):=by
 intro pins s σ H Q I h;refine dJ (ha pins s σ H _ I h) λv s1 ⟨x,H1,I1,r1,q1⟩=>?_;exact Constant_none (isnot_none_gen ⟨.bl _,H1,I1,by rw [r1.A9];rfl,q1⟩)
def tB (t:TE):TT:=λσ H Q=>t σ H λx H1=> ∃c,x= .bl c/\Q c H1
def Jw {op:CmpOp} {t:TE} (h:PC X op a b t) (h1:aej op b=false:=by first|exact Ba _ (by decide) (by decide)|rfl):PE X (.Compare a [op] [b] pos) t:=λpins s σ H Q I hw=>wpAny_Compare1 (h pins s σ H Q I hw) h1
def gc {op:CmpOp} {t:TE} (h:PC X op a b t) (h1:aej op b=false:=by first|exact Ba _ (by decide) (by decide)|rfl):PT X (.Compare a [op] [b] pos) (tB t):=by
 intro pins s σ H Q I hw;refine wpAny_isTrue_Compare1 (dJ (h pins s σ H _ I hw) λv s1 h1=>dJ h1 λu s2 h2=>dJ h2 λc s3 ⟨x,H1,I1,r1,q1⟩=>?_) h1;obtain ⟨d,rfl,q⟩:=q1;cases r1;exact aen ⟨H1,I1,q⟩
def eV {e:adS} {t:TE} (h:PE X e t) (he: ∀whole,isTrue e X.env whole=(do let v<-whole;standAt e.pos;aeE [v] (truthy v)):=by intro _;rfl):PT X e (tB t):=by
 intro pins s σ H Q I hw;refine isTrue_plain (dJ (h pins s σ H _ I hw) λv s1 ⟨x,H1,I1,r1,q1⟩=>?_) (he _);obtain ⟨d,rfl,q⟩:=q1;cases r1;exact aen ⟨H1,I1,q⟩
variable {tA Vv:TT} {rest:List adS}
def WW (t u:TT):TT:=λσ H Q=>t σ H λc H1=>if c=true then u σ H1 Q else Q false H1
def tOr (t u:TT):TT:=λσ H Q=>t σ H λc H1=>if c=true then Q true H1 else u σ H1 Q
def Sb (t:TT):TT:=λσ H Q=>t σ H λc H1=>Q (!c) H1
def l5 (ha:PT X a tA):PW X (.BoolOp .And [a] pos) tA:=by
 intro wh pins s σ H Q I h;refine isTrue_and (dJ (ha pins s σ H Q I h) λc s1 e=>?_);cases c with
 |true=>exact isTrue_and_nil e
 |false=>exact e
def C9 (ha:PT X a tA):PW X (.BoolOp .Or [a] pos) tA:=by
 intro wh pins s σ H Q I h;refine isTrue_or (dJ (ha pins s σ H Q I h) λc s1 e=>?_);cases c with
 |false=>exact isTrue_or_nil e
 |true=>exact e
def pM (ha:PT X a tA) (hb:PW X (.BoolOp .And (b::rest) pos) Vv):PW X (.BoolOp .And (a::b::rest) pos) (WW tA Vv):=by
 intro wh pins s σ H Q I h;refine isTrue_and (dJ (ha pins s σ H _ I h) λc s1 ⟨H1,I1,q1⟩=>?_);cases c with
 |true=>exact hb wh pins s1 σ H1 Q I1 q1
 |false=>exact ⟨H1,I1,q1⟩
def AN (ha:PT X a tA) (hb:PW X (.BoolOp .Or (b::rest) pos) Vv):PW X (.BoolOp .Or (a::b::rest) pos) (tOr tA Vv):=by
 intro wh pins s σ H Q I h;refine isTrue_or (dJ (ha pins s σ H _ I h) λc s1 ⟨H1,I1,q1⟩=>?_);cases c with
 |true=>exact ⟨H1,I1,q1⟩
 |false=>exact hb wh pins s1 σ H1 Q I1 q1
def ip (ha:PT X a tA):PT X (.UnaryOp .Not a pos) (Sb tA):=by
 intro pins s σ H Q I h;exact isTrue_not (ha pins s σ H (λc H1=>Q (!c) H1) I h)
def Sn (ta tb:TE):TE:=λσ H Q=>ta σ H λx H1=> ∃c,x= .bl c/\if c=true then tb σ H1 Q else Q (.bl false) H1
def jL {op} {t:TE} (h:PE X a t):PE X (.BoolOp op [a] pos) t:=λpins s σ H Q I hw=>BoolOp_one (h pins s σ H Q I hw)
def eI (ha:PE X a ta) (hb:PE X (.BoolOp .And (b::rest) pos) tb):PE X (.BoolOp .And (a::b::rest) pos) (Sn ta tb):=by
 intro pins s σ H Q I h;refine BoolOp_and (dJ (ha pins s σ H _ I h) λv s1 ⟨x,H1,I1,r1,q1⟩=>?_);obtain ⟨c,rfl,q1⟩:=q1;cases r1;refine aen ?_;cases c with
 |true=>exact hb pins s1 σ H1 Q I1 q1
 |false=>exact ⟨.bl false,H1,I1,rfl,q1⟩
def tIf (t:TT) (ta tb:TE):TE:=λσ H Q=>t σ H λc H1=>if c=true then ta σ H1 Q else tb σ H1 Q
def A1 {c:adS} (hc:PT X c tA) (ha:PE X a ta) (hb:PE X b tb):PE X (.IfExp c a b pos) (tIf tA ta tb):=by
 intro pins s σ H Q I h;refine wpAny_IfExp (dJ (hc pins s σ H _ I h) λd s1 ⟨H1,I1,q1⟩=>?_);cases d with
 |true=>exact ha pins s1 σ H1 Q I1 q1
 |false=>exact hb pins s1 σ H1 Q I1 q1
end
end L2
namespace L2
open PySem PySem.Spec PyProof.Rows
def iF (K:aa) (H:Hp) (a:Addr) (xs:List V):Prop:=
 Rd H a (.lst xs)∨
  ∃(o:Obj) (its:Array Value) (n:Nat),K.lookup a=some o/\o.cls= .type "list"/\o.dict=none/\o.data= .seq its n/\its.size<=sizeLine/\Vals xs its.toList
def zK (K:aa) (H:Hp) (a:Addr) (xs:List V):Prop:=
 Rd H a (.tup xs)∨
  ∃(o:Obj) (its:Array Value) (n:Nat),K.lookup a=some o/\o.cls= .type "tuple"/\o.data= .seq its n/\its.size<=sizeLine/\Vals xs its.toList
def Zb:Value->Option V
 | .none=>some .fY
 | .bool b=>some (.bl b)
 | .int i _=>some (.int i)
 | .str x _=>some (.str x)
 | .bytes b _=>some (.zF b)
 | .float b _=>some (.UQ b)
 | .ref a=>some (.ref a)
 | .type n=>some (.ty n)
 |_=>none
def RelV.abs {x:V} {u:Value} (r:RelV x u):Zb u=some x:=by
 cases x with
 |fY=>cases r;rfl
 |bl _=>cases r;rfl
 |int _=>obtain ⟨t,rfl⟩:=r;rfl
 |str _=>obtain ⟨t,rfl⟩:=r;rfl
 |zF _=>obtain ⟨t,rfl⟩:=r;rfl
 |UQ _=>obtain ⟨t,rfl⟩:=r;rfl
 |ref _=>cases r;rfl
 |ty _=>cases r;rfl
def RelV.inj {x y:V} {u:Value} (r:RelV x u) (q:RelV y u):x=y:=bx (r.abs.symm.trans q.abs)
def Vals.inj: ∀{xs ys:List V} {us:List Value},Vals xs us->Vals ys us->xs=ys
 |_,_,_, .nil, .nil=>rfl
 |_,_,_, .cons r t, .cons r' t'=>by rw [r.inj r',Vals.inj t t']
section
variable {X:Cx} {pins:List (Addr×Obj)} {σ:St} {H:Hp} {s:adN} {a:Addr} {xs ys:List V}
def iF.of {K:aa} (h:H a=some (.lst xs)):iF K H a xs:= .inl (.inl h)
def zK.of {K:aa} (h:H a=some (.tup xs)):zK K H a xs:= .inl (.inl h)
def Inv.list (I:Inv X pins σ H s) (h:iF X.K H a xs): ∃its:List Value,Vals xs its/\PlainL s.heap a its.toArray/\xs.length<=sizeLine:=by
 rcases h with h|⟨o,its,n,hk,hc,hd,hs,hz,r⟩
 ·obtain ⟨z,its,n,r,e⟩:=h.ok I.cO;exact ⟨its,r,⟨_,n,e,rfl,rfl,rfl⟩,z⟩
 ·refine ⟨its.toList,r,⟨o,n,I.Fe a o hk,hc,hd,by simpa using hs⟩,?_⟩;have e:=r.length;simp only [g6] at e;omega
def Inv.tuple (I:Inv X pins σ H s) (h:zK X.K H a xs): ∃its:List Value,Vals xs its/\IsTup s.heap a its.toArray/\xs.length<=sizeLine:=by
 rcases h with h|⟨o,its,n,hk,hc,hs,hz,r⟩
 ·obtain ⟨z,its,r,p⟩:=h.ok I.cO;exact ⟨its,r,p,z⟩
 ·refine ⟨its.toList,r,⟨o,I.Fe a o hk,hc,n,by simpa using hs⟩,?_⟩;have e:=r.length;simp only [g6] at e;omega
def Inv.nH (I:Inv X pins σ H s) (h:iF X.K H a xs) (h':iF X.K H a ys):xs=ys:=by
 obtain ⟨its,r,⟨o,n,e,_,_,d⟩,_⟩:=I.list h;obtain ⟨its',r',⟨o',n',e',_,_,d'⟩,_⟩:=I.list h';rw [e] at e';cases e';rw [d] at d';injection d' with d1 _;have:its=its':=by simpa using congrArg Rm d1
 subst this;exact r.inj r'
end
abbrev Cx.wO (X:Cx) (E:Value->adN->Prop):Cx:={X with xe:=E}
abbrev Cx.Lz (X:Cx):Cx:=X.wO λ_ _=>False
def Cx.Ok.wO {X:Cx} (ok:X.Ok) (E:Value->adN->Prop):(X.wO E).Ok:=
 ⟨ok.mod,ok.kind,ok.glob,ok.blt,ok.above,ok.inj,ok.has,ok.U3,ok.hd,ok.frames,ok.Vx,ok.Wb,ok.bs,ok.NV,ok.JD,ok.KZ,ok.tw,ok.QD⟩
def Cx.Ok.nj {X:Cx} {E:Value->adN->Prop} (ok:(X.wO E).Ok):X.Ok:=
 ⟨ok.mod,ok.kind,ok.glob,ok.blt,ok.above,ok.inj,ok.has,ok.U3,ok.hd,ok.frames,ok.Vx,ok.Wb,ok.bs,ok.NV,ok.JD,ok.KZ,ok.tw,ok.QD⟩
section
variable {X:Cx} {pins:List (Addr×Obj)} {σ:St} {H:Hp} {s:adN} {E:Value->adN->Prop}
def Inv.wO (I:Inv X pins σ H s) (E:Value->adN->Prop):Inv (X.wO E) pins σ H s:=⟨I.ok.wO E,I.os,I.bare,I.base,I.loc,I.cell,I.free,I.lm,I.pin,I.cO,I.len⟩
def Inv.nj (I:Inv (X.wO E) pins σ H s):Inv X pins σ H s:=⟨I.ok.nj,I.os,I.bare,I.base,I.loc,I.cell,I.free,I.lm,I.pin,I.cO,I.len⟩
def SP.nj {D:Ends} {f:Flow} {s':adN} (h:SP (X.wO E) pins D f s'):SP X pins D f s':=by
 cases f with
 |next=>obtain ⟨eX,H',I,q⟩:=h;exact ⟨eX,H',I.nj,q⟩
 |brk=>obtain ⟨eX,H',I,q⟩:=h;exact ⟨eX,H',I.nj,q⟩
 |cont=>obtain ⟨eX,H',I,q⟩:=h;exact ⟨eX,H',I.nj,q⟩
 |ret u=>obtain ⟨v,eX,H',I,r,q⟩:=h;exact ⟨v,eX,H',I.nj,r,q⟩
def HI.Lz {st:List adZ} {t:TS} (h:HI X.Lz st t):HI X st t:=λpins s σ H D I hw=>
 wpAny_mono (h pins s σ H D (I.wO _) hw) (λ_ _ q=>q.nj) λ_ _ z=>dj z
end
section
variable {X:Cx} {st:adZ} {rest:List adZ} {t u:TS} {e:adS} {te:TE} {pos:Pos}
def Oa:TS:=λD σ H=>D.nx σ H
def WO (t u:TS):TS:=λD σ H=>t {D with nx:=u D} σ H
def bI:HI X [] Oa:=λ_ _ σ H _ I h=>aeX ⟨σ,H,I,h⟩
def am (h1:PS X st t) (h2:HI X rest u):HI X (st::rest) (WO t u):=by
 intro pins s σ H D I h;refine wpAny_execs_cons (dJ (h1 pins s σ H {D with nx:=u D} I h) λf s1 q=>?_);cases f with
 |next=>
  obtain ⟨eX,H',I',q⟩:=q;exact h2 pins s1 eX H' D I' q
 |ret v=>exact q
 |brk=>exact q
 |cont=>exact q
def aA (h1:PS X st t):HI X [st] t:=by
 intro pins s σ H D I h;refine wpAny_execs_cons (dJ (h1 pins s σ H D I h) λf s1 q=>?_);cases f with
 |next=>exact aeX q
 |ret v=>exact q
 |brk=>exact q
 |cont=>exact q
def Inv.quiet {pins:List (Addr×Obj)} {σ:St} {H:Hp} {s:adN} (I:Inv X pins σ H s):interactive X.env=false:=by simp [interactive,I.ok.kind]
def Sj (te:TE):TS:=λD σ H=>te σ H λ_ H1=>D.nx σ H1
def eO (he:PE X e te) (hs:aeo e none pos.line X.env=pure false:=by rfl):PS X (.Expr e pos) (Sj te):=by
 intro pins s σ H D I h;exact wpAny_Expr_any (dJ (he pins s σ H _ I h) λv s1 ⟨x,H1,I1,r1,q1⟩=>⟨σ,H1,I1,q1⟩) I.quiet hs
def R6 (te:TE):TS:=λD σ H=>te σ H D.rt
def aY (he:PE X e te):PS X (.Return (some e) pos) (R6 te):=by
 intro pins s σ H D I h;exact wpAny_Return_some (dJ (he pins s σ H _ I h) λv s1 ⟨x,H1,I1,r1,q1⟩=>⟨x,σ,H1,I1,r1,q1⟩)
def Sh (c:TT) (t u:TS):TS:=λD σ H=>c σ H λb H1=>if b=true then t D σ H1 else u D σ H1
def cF {c:adS} {a b:List adZ} {tc:TT} (hc:PT X c tc) (ha:HI X a t) (hb:HI X b u):PS X (.If c a b pos) (Sh tc t u):=by
 intro pins s σ H D I h;refine wpAny_If (dJ (hc pins s σ H _ I h) λd s1 ⟨H1,I1,q1⟩=>?_);cases d with
 |true=>exact ha pins s1 σ H1 D I1 q1
 |false=>exact hb pins s1 σ H1 D I1 q1
end
abbrev TG:=V->St->Hp->(St->Hp->Prop)->Prop
abbrev OV:=List V->St->Hp->(St->Hp->Prop)->Prop
def PG (X:Cx) (target:adS) (t:TG):Prop:=
 ∀(pins:List (Addr×Obj)) (s:adN) (σ:St) (H:Hp) (v:V) (u:Value) (Q:St->Hp->Prop),Inv X pins σ H s->RelV v u->t v σ H Q->
  wpAny (adR X.prog X.w) X.A (assign target X.env u) (λ_ s'=> ∃eX H',Inv X pins eX H' s'/\Q eX H') X.xe s
def Vc (X:Cx) (ts:List adS) (t:OV):Prop:=
 ∀(pins:List (Addr×Obj)) (s:adN) (σ:St) (H:Hp) (vs:List V) (us:List Value) (Q:St->Hp->Prop),Inv X pins σ H s->Vals vs us->t vs σ H Q->
  wpAny (adR X.prog X.w) X.A (assignInOrder ((aep ts X.env).map (·.2)) us) (λ_ s'=> ∃eX H',Inv X pins eX H' s'/\Q eX H') X.xe s
abbrev Rb:=V->V->V->Hp->(Hp->Prop)->Prop
def Vb (X:Cx) (t:Rb):Prop:=
 ∀(pins:List (Addr×Obj)) (s:adN) (σ:St) (H:Hp) (o i v:V) (ov iv u:Value) (Q:Hp->Prop),Inv X pins σ H s->RelV o ov->RelV i iv->RelV v u->t o i v H Q->
  wpAny (adR X.prog X.w) X.A (setItem ov iv u) (λ_ s'=> ∃H',Inv X pins σ H' s'/\Q H') X.xe s
section
variable {X:Cx} {pos:Pos}
def vJ (i:Nat):TG:=λv σ H Q=>Q (σ.set i (some v)) H
def MK {i:Nat} {x:Str} (hN:X.N.Nodup) (hi:X.N[i]?=some x) (hx:Loc X.env.scope x) (hf:X.fn x=true∨X.env.scope.names.lookup x=some .local:=by first|exact .inl rfl|exact .inr rfl|assumption):PG X (.Name x pos) (vJ i):=by
 intro pins s σ H v u Q I r h;exact wpAny_assign_Name (Aj I hN hi hx r (λs' I'=>⟨_,H,I',h⟩) hf)
def YQ:OV:=λvs σ H Q=>vs= []/\Q σ H
def UG (t:TG) (u:OV):OV:=λvs σ H Q=> ∃v r,vs=v::r/\t v σ H λeX H'=>u r eX H' Q
def g8:Vc X [] YQ:=by
 intro pins s σ H vs us Q I r h;obtain ⟨e,h⟩:=h;subst e;cases r;exact assignInOrder_nil ⟨σ,H,I,h⟩
def cH {e:adS} {es:List adS} {t:TG} {u:OV} (h1:PG X e t) (h2:Vc X es u)
  (hs:(aep (e::es) X.env).map (·.2)=assign e X.env::(aep es X.env).map (·.2):=by rfl):Vc X (e::es) (UG t u):=by
 intro pins s σ H vs us Q I r h;obtain ⟨v,vr,e1,h⟩:=h;subst e1;cases r with
 |cons r rr=>
  rw [hs];refine assignInOrder_cons (dJ (h1 pins s σ H _ _ _ I r h) λ_ s1 ⟨Rn,H1,I1,q1⟩=>?_);exact h2 pins s1 Rn H1 _ _ Q I1 rr q1
def UF (K:aa) (n:Nat) (t:OV):TG:=λv σ H Q=> ∃a xs,v= .ref a/\zK K H a xs/\xs.length=n/\t xs σ H Q
def kH {es:List adS} {k:Nat} {t:OV} {n:Nat} (hc:X.calm=true) (h:Vc X es t)
  (hn:(aep es X.env).length=n:=by rfl) (Qj:(aep es X.env).findIdx? (·.1)=none:=by rfl):PG X (.Tuple es k pos) (UF X.K n t):=by
 intro pins s σ H v u Q I r hw;obtain ⟨a,xs,e1,hq,hl,hw⟩:=hw;subst e1;cases r;obtain ⟨its,rv,ht,hz⟩:=I.tuple hq;refine assign_Tuple_tuple (I.ok.hd hc) ht (by simp [hn, <-hl,rv.length]) Qj λh' hx=>?_;have I1:Inv X pins σ H {s with heap:=h'}:=I.kept (t':=s.toks) λb o e=>hx b o (bH (Heap.lt_size e)) e;exact h pins _ σ H xs _ Q I1 (by simpa using rv) hw
def YO (to ti:TE) (t:Rb):TG:=λv σ H Q=>to σ H λo H1=>ti σ H1 λi H2=>t o i v H2 λH3=>Q σ H3
def Px {o i:adS} {to ti:TE} {t:Rb} (ho:PE X o to) (hi:PE X i ti) (hs:Vb X t)
  (ha: ∀v,assign (.Subscript o i pos) X.env v=(do
   let ov<-aeE [v] (eval o X.env);let iv<-aeE [v,ov] (eval i X.env)
   standAt pos
   aeE [v,ov,iv] (setItem ov iv v)
   release [v,ov,iv] []):=by intro _;rfl):PG X (.Subscript o i pos) (YO to ti t):=by
 intro pins s σ H v u Q I r h;rw [ha];refine adP (aeh (dJ (ho pins s σ H _ I h) λov s1 ⟨x,H1,I1,r1,q1⟩=>?_));refine adP (aeh (dJ (hi pins s1 σ H1 _ I1 q1) λiv s2 ⟨y,H2,I2,r2,q2⟩=>?_));refine adP (aeO (adP (aeh (dJ (hs pins s2 σ H2 x y v ov iv u _ I2 r1 r2 r q2) λ_ s3 ⟨H3,I3,q3⟩=>?_))));exact wpAny_release ⟨σ,H3,I3,q3⟩
def Ml (te:TE) (g:TG):TS:=λD σ H=>te σ H λx H1=>g x σ H1 D.nx
def Pw {tg e:adS} {te:TE} {g:TG} (he:PE X e te) (hg:PG X tg g) (hs:swapsWithSole [tg] e pos.line X.env=pure false:=by rfl) (hw:swappedStores [tg] e X.env=pure none:=by rfl)
  (h1:(aep [tg] X.env).map (·.2)= [assign tg X.env]:=by rfl):PS X (.Assign [tg] e pos) (Ml te g):=by
 intro pins s σ H D I h;refine wpAny_Assign_stores (dJ (he pins s σ H _ I h) λv s1 ⟨x,H1,I1,r1,q1⟩=>?_) hs hw;rw [h1];exact dJ (hg pins s1 σ H1 x v _ I1 r1 q1) λ_ s2 q=>q
def Pu {i:Nat} {x:Str} {e:adS} {te:TE} {pos':Pos} (hN:X.N.Nodup) (hi:X.N[i]?=some x) (hx:Loc X.env.scope x) (he:PE X e te) (hs:aeo e (some (.Name x pos')) pos.line X.env=pure false:=by rfl) (hf:X.fn x=true∨X.env.scope.names.lookup x=some .local:=by first|exact .inl rfl|exact .inr rfl|assumption):
  PS X (.Assign [.Name x pos'] e pos) (Ml te (vJ i)):=by
 intro pins s σ H D I h;refine wpAny_Assign_Name (dJ (he pins s σ H _ I h) λv s1 ⟨y,H1,I1,r1,q1⟩=>?_) hs;exact Aj I1 hN hi hx r1 (λs2 I2=>⟨_,H1,I2,q1⟩) hf
end
section
variable {X:Cx} {pos:Pos}
def O8 (c:TT) (tb:TS):TS:=λD σ H=> ∃W:Nat->St->Hp->Prop,(∃m,W m σ H)/\∀m σ H,W m σ H->
 c σ H λb H1=>if b=true then∃N:St->Hp->Prop,(∀eX H',N eX H'->∃m',m'<m/\W m' eX H')/\tb {D with nx:=N,ct:=N,bk:=D.nx} σ H1 else D.nx σ H1
def u0 {c:adS} {body:List adZ} {tc:TT} {tb:TS} (hp:PassesOwn (adR X.prog X.w) X.A X.env X.xe) (hc:PT X c tc) (hb:HI X body tb):PS X (.While c body [] pos) (O8 tc tb):=by
 intro pins s σ H D I h;obtain ⟨W,⟨m0,w0⟩,turn⟩:=h;refine wpAny_While (codeAny_whileLoop (λn s'=> ∃eX H',Inv X pins eX H' s'/\W n eX H') ?_ m0 ⟨σ,H,I,w0⟩);rintro n s1 ⟨Rn,H1,I1,w1⟩;refine aew hp (dJ (hc pins s1 Rn H1 _ I1 (turn n Rn H1 w1)) λb s2 ⟨H2,I2,q2⟩=>?_);cases b with
 |true=>
  obtain ⟨N,hN,q2⟩:=q2;rw [if_pos rfl];refine aew hp (dJ (hb pins s2 Rn H2 _ I2 q2) λf s3 q3=>?_);cases f with
  |next=>
   obtain ⟨Ii,H3,I3,n3⟩:=q3;obtain ⟨m',hm,w3⟩:=hN Ii H3 n3;exact ⟨m',hm,Ii,H3,I3,w3⟩
  |cont=>
   obtain ⟨Ii,H3,I3,n3⟩:=q3;obtain ⟨m',hm,w3⟩:=hN Ii H3 n3;exact ⟨m',hm,Ii,H3,I3,w3⟩
  |brk=>exact q3
  |ret v=>exact q3
 |false=>
  rw [if_neg aJ];exact aeX ⟨Rn,H2,I2,q2⟩
end
structure It where
 go:Nat->Hp->Prop
 Ik:Nat->Hp->V->Hp->Prop
 stop:Nat->Hp->Prop
def tG (X:Cx) (pins:List (Addr×Obj)) (H:Hp) (b:Addr):Prop:=
 H b=none/\b≠X.env.locals/\b∉X.fs/\(b∈X.ex∨X.xJ.heap.objs.size<=b)/\(∀x c,X.env.cells.lookup x=some c->c≠b)/\∀p∈X.pn++pins,p.1≠b
def Inv.DU {X:Cx} {pins:List (Addr×Obj)} {σ:St} {H H':Hp} {s:adN} {b:Addr} (I:Inv X pins σ H s) (hb:s.heap.objs.size<=b) (hn:H' b=none):tG X pins H' b:=by
 refine ⟨hn,gZ (bu I.lt hb),I.Xw hb, .inr (aV I.sz hb),λx c e z=>?_,λp hp z=>?_⟩
 ·obtain ⟨v,q⟩:=I.cell x c e;exact absurd (bu q.lt (by rw [z];exact hb)) (dW _)
 ·exact absurd (bu (Heap.lt_size (I.pin p hp).1) (by rw [z];exact hb)) (dW _)
structure Turn (P:adT) (w:adQ) (K:aa) (tg:adS) (J:It) (fp:List Addr) (it:Addr) (tn:Nat->adO->Prop):Prop where
 mem:it∈fp
 obj: ∀i h,tn i h->∀b∈fp, ∃o,h.get? b=some o/\∀v,o.data≠ .cell v
 keep: ∀i h h',tn i h->(∀b∈fp, ∀o,h.get? b=some o->h'.get? b=some o)->tn i h'
 item: ∀(X:Cx),X.prog=P->X.w=w->X.K=K->X.calm=true->∀(i:Nat) (pins:List (Addr×Obj)) (s:adN) (σ:St) (H:Hp) (E:Value->adN->Prop),Inv X pins σ H s->(∀b∈fp,tG X pins H b)->tn i s.heap->J.go i H->
  wpAny (adR P w) X.A (aef (.ref it)) (λr s1=> ∃u,r=some u/\
   wpAny (adR P w) X.A (aeY tg (.ref it) u) (λ_ s2=> ∃x H',Inv X pins σ H' s2/\RelV x u/\J.Ik i H x H'/\tn (i+1) s2.heap/\∀b∈fp,H' b=none) E s1) E s
 done: ∀(X:Cx),X.prog=P->X.w=w->X.K=K->X.calm=true->∀(i:Nat) (pins:List (Addr×Obj)) (s:adN) (σ:St) (H:Hp) (E:Value->adN->Prop),Inv X pins σ H s->(∀b∈fp,tG X pins H b)->tn i s.heap->J.stop i H->
  wpAny (adR P w) X.A (aef (.ref it)) (λr s1=>r=none/\Inv X pins σ H s1) E s
 self: ∀(A:adW) (i:Nat) (s:adN) (Q:Value->adN->Prop) (E:Value->adN->Prop),tn i s.heap->Q (.ref it) s->wpAny (adR P w) A (pyIter (.ref it)) Q E s
abbrev TI:=St->Hp->(It->Hp->Prop)->Prop
def Wl (X:Cx) (pins:List (Addr×Obj)) (σ:St) (tg:adS) (R:It->Hp->Prop) (XH:Value) (s2:adN):Prop:=
 ∃(it:Addr) (fp:List Addr) (tn:Nat->adO->Prop) (J:It) (H':Hp),XH= .ref it/\Inv X pins σ H' s2/\Turn X.prog X.w X.K tg J fp it tn/\tn 0 s2.heap/\(∀b∈fp,tG X pins H' b)/\R J H'
def PI (X:Cx) (tg iter:adS) (wi:TI):Prop:=
 ∀(pins:List (Addr×Obj)) (s:adN) (σ:St) (H:Hp) (R:It->Hp->Prop),Inv X pins σ H s->wi σ H R->
  wpAny (adR X.prog X.w) X.A (eval iter X.env) (λv s1=>wpAny (adR X.prog X.w) X.A (pyIter v) (Wl X pins σ tg R) X.xe s1) X.xe s
def Kc {M:Model} {A:adW} {E:Value->adN->Prop} {s:adN} {tg:adS} {it:Addr} {u:Value} {o:Obj} {n:String} {vs:Array Value} {Q:Unit->adN->Prop} (ho:s.heap.get? it=some o) (hc:o.cls= .type n) (hd:o.data= .fields vs)
  (hn: ["enumerate","zip","dict_itemiterator","dict_reverseitemiterator","odict_iterator","itertools.zip_longest","itertools.pairwise"].contains n=false) (hQ:Q () s):wpAny M A (aeY tg (.ref it) u) Q E s:=by
 unfold aeY;cases tg<;>first
  |exact adV hQ
  |(cases u<;>first
    |exact adV hQ
    |(refine adP (wpAny_load ho ?_)
      rw [hc,hd];show wpAny M A (if (["enumerate","zip","dict_itemiterator","dict_reverseitemiterator","odict_iterator","itertools.zip_longest","itertools.pairwise"].contains n&&vs[0]?==some (rawInt _))=true then _ else _) Q E s;rw [if_neg (by intro h;rw [hn,pz] at h;cases h)];exact adV hQ))
def OZ (K:aa) (a:Addr):It:=
 ⟨λi H=> ∃xs x,iF K H a xs/\xs[i]?=some x,λi H x H'=>H'=H/\∀xs,iF K H a xs->xs[i]?=some x,λi H=> ∃xs,iF K H a xs/\xs.length<=i⟩
def LP (lo:Int) (n:Nat):It:=⟨λi _=>i<n,λi H x H'=>H'=H/\x= .int (lo+i),λi _=>n<=i⟩
def FW {P:adT} {w:adQ} {K:aa} {tg:adS} (a it:Addr):Turn P w K tg (OZ K a) [it] it (λi h=>h.IsListIter it a i) where
 mem:=by simp
 obj:=λi h st b hb=>by
  have e:b=it:=by simpa using hb
  subst e;obtain ⟨o,e,c,d⟩:=st;exact ⟨o,e,λv z=>by rw [d] at z;cases z⟩
 keep:=λi h h' st k=>st.at λo e=>k it (by simp) o e
 item:=by
  intro X hP hw hK hc i pins s σ H E I hf st hg;subst hP hw hK;obtain ⟨xs,x,hq,hx⟩:=hg;obtain ⟨its,rv,p,hz⟩:=I.list hq;obtain ⟨u,hu,ru⟩:=rv.get hx;obtain ⟨f0,f1,f2,f3,f4,f5⟩:=hf it (by simp);refine wpAny_pyNext_list_item st p.isList (x:=u) (by simpa using hu) λh' wy sb=>?_;have I1:Inv X pins σ H {s with heap:=h'}:=I.turned (t':=s.toks) (λb o hb e=>(sb.2 b hb).trans e) f0 f1 f3 f4 f5;obtain ⟨o,e,c,d⟩:=id wy;exact ⟨u,rfl,Kc (s:={s with heap:=h'}) e c d (by decide) ⟨x,H,I1,ru,⟨rfl,λys hy=>by rw [I.nH hy hq];exact hx⟩,wy,λb hb=>(hf b hb).1⟩⟩
 done:=by
  intro X hP hw hK hc i pins s σ H E I hf st hg;subst hP hw hK;obtain ⟨xs,hq,hx⟩:=hg;obtain ⟨its,rv,p,hz⟩:=I.list hq;obtain ⟨f0,f1,f2,f3,f4,f5⟩:=hf it (by simp);have hl:=rv.length;exact wpAny_pyNext_list_end (I.ok.hd hc) st p.isList (by simp;omega) λh' eb=>⟨rfl,I.turned (t':=s.toks) (λb o hb e=>eb b o hb e) f0 f1 f3 f4 f5⟩
 self:=λ_ _ _ _ _ st h=>wpAny_pyIter_listiter st h
def CH {P:adT} {w:adQ} {K:aa} {tg:adS} (it:Addr) (lo:Int) (n:Nat):Turn P w K tg (LP lo n) [it] it (λi h=>aeZ h it (lo+(i:Nat)*1) ((n:Int)-(i:Nat)) 1) where
 mem:=by simp
 obj:=λi h st b hb=>by
  have e:b=it:=by simpa using hb
  subst e;exact ⟨_,st,λv z=>by
   have z':Data.fields _=Data.cell v:=z;cases z'⟩
 keep:=λi h h' st k=>k it (by simp) _ st
 item:=by
  intro X hP hw hK hc i pins s σ H E I hf st hg;subst hP hw hK;obtain ⟨f0,f1,f2,f3,f4,f5⟩:=hf it (by simp);have W:=Walks.range (prog:=X.prog) (w:=X.w) (I.ok.hd hc) it lo 1 n;refine W.item i s _ _ hg st λv h' tk hv wy kk=>?_;obtain ⟨t,rfl⟩:=hv;have I1:Inv X pins σ H {s with heap:=h',toks:=tk}:=I.turned (λb o hb e=>kk b o (by simpa using hb) e) f0 f1 f3 f4 f5;refine ⟨_,rfl,Kc (s:={s with heap:=h',toks:=tk}) (n:= "range_iterator") wy rfl rfl (by decide) ⟨.int (lo+i),H,I1,⟨t,?_⟩,⟨rfl,rfl⟩,wy,λb hb=>(hf b hb).1⟩⟩;rw [Int.mul_one]
 done:=by
  intro X hP hw hK hc i pins s σ H E I hf st hg;subst hP hw hK;obtain ⟨f0,f1,f2,f3,f4,f5⟩:=hf it (by simp);exact wpAny_pyNext_range_end (I.ok.hd hc) st (by have:n<=i:=hg;omega) λh' eb=>⟨rfl,I.turned (t':=s.toks) (λb o hb e=>eb b o hb e) f0 f1 f3 f4 f5⟩
 self:=λ_ _ _ _ _ st h=>wpAny_pyIter_rangeiter st h
end L2
namespace L2
open PySem PySem.Spec PyProof.Rows
section
variable {X:Cx} {tg:adS}
def Oy (K:aa) (tl:TE):TI:=λσ H R=>tl σ H λx H1=> ∃a,x= .ref a/\(∃xs,iF K H1 a xs)/\R (OZ K a) H1
def cE {l:adS} {tl:TE} (hl:PE X l tl):PI X tg l (Oy X.K tl):=by
 intro pins s σ H R I h;refine dJ (hl pins s σ H _ I h) λv s1 ⟨x,H1,I1,r1,q1⟩=>?_;obtain ⟨a,e,⟨xs,hq⟩,q⟩:=q1;subst e;cases r1;obtain ⟨its,rv,p,hz⟩:=I1.list hq;refine aex p.isList ?_;refine ⟨s1.heap.objs.size,[s1.heap.objs.size],_,_,H1,rfl,I1.kept (t':=s1.toks) λb o e=>Heap.get?_push_of_some _ e,FW a _,⟨_,Heap.get?_push_size _ rfl,rfl,rfl⟩,λb hb=>?_,q⟩;have e:b=s1.heap.objs.size:=by simpa using hb
 subst e;exact I1.DU (ay _) (I1.cO.fresh (ay _))
def AM {pins:List (Addr×Obj)} {σ:St} {H:Hp} {s:adN} {R:It->Hp->Prop} {E:Value->adN->Prop} {lo hi:Int} {t u v:Tok} {tk:Nat} (I:Inv X pins σ H s) (h1: -(2^62)<=lo) (h2:lo<2^62) (h3: -(2^62)<=hi) (h4:hi<2^62)
  (q:R (LP lo (hi-lo).toNat) H):wpAny (adR X.prog X.w) X.A (pyIter (.ref s.heap.objs.size)) (Wl X pins σ tg R) E {s with heap:=s.heap.push {cls:= .type "range",data:= .fields #[.int lo t, .int hi u, .int 1 v]},toks:=tk}:=by
 refine wpAny_pyIter_range (IsRange.new ..) (small_one h1 h2 h3 h4) ?_;have I1:Inv X pins σ H {s with heap:=s.heap.push {cls:= .type "range",data:= .fields #[.int lo t, .int hi u, .int 1 v]},toks:=tk}:=I.kept λb o e=>Heap.get?_push_of_some _ e;refine ⟨(s.heap.push {cls:= .type "range",data:= .fields #[.int lo t, .int hi u, .int 1 v]}).objs.size,[(s.heap.push {cls:= .type "range",data:= .fields #[.int lo t, .int hi u, .int 1 v]}).objs.size],_,_,H,rfl,
  I1.kept (t':=tk) λb o e=>Heap.get?_push_of_some _ e,CH _ lo (hi-lo).toNat,?_,λb hb=>?_,q⟩
 ·have e1:lo+((0:Nat):Int)*1=lo:=by simp
  have e2:(((hi-lo).toNat:Nat):Int)-((0:Nat):Int)=Builtin.Range.rangeSize lo hi 1:=by rw [rangeSize_one];split<;>omega
  show aeZ _ _ (lo+((0:Nat):Int)*1) ((((hi-lo).toNat:Nat):Int)-((0:Nat):Int)) 1;rw [e1,e2];exact Heap.get?_push_size _ rfl
 ·have e:b=(s.heap.push {cls:= .type "range",data:= .fields #[.int lo t, .int hi u, .int 1 v]}).objs.size:=by simpa using hb
  subst e;exact I1.DU (ay _) (I1.cO.fresh (ay _))
def Tu (ta:TA):TI:=λσ H R=>ta σ H λvs H1=> ∃j:Int,vs= [.int j]/\ -(2^62)<=j/\j<2^62/\R (LP 0 j.toNat) H1
def Tt (ta:TA):TI:=λσ H R=>ta σ H λvs H1=> ∃i j:Int,vs= [.int i, .int j]/\(-(2^62)<=i/\i<2^62/\ -(2^62)<=j/\j<2^62)/\R (LP i (j-i).toNat) H1
def rM {a:adS} {ta:TA} {p pos:Pos} (hg:Gl X "range") (hm:X.mg "range" =none) (ha:PA X [a] ta) (hs:adU [a] X.env= [(false,eval a X.env)]:=by rfl):PI X tg (.Call (.Name "range" p) [a] [] pos) (Tu ta):=by
 intro pins s σ H R I h;refine Call_ (mj I hg hm boot_range (de (dJ (ha pos pins s σ H _ I h) λus s1 ⟨vs,H1,I1,r1,q1⟩=>?_) hs rfl));obtain ⟨j,e,q1,q2,q⟩:=q1;subst e;cases r1 with
 |cons r rr=>
  cases rr;obtain ⟨t,rfl⟩:=r;exact call_range_1 (AM I1 (by omega) (by omega) q1 q2 (by simpa using q))
def iL {a b:adS} {ta:TA} {p pos:Pos} (hg:Gl X "range") (hm:X.mg "range" =none) (ha:PA X [a,b] ta) (hs:adU [a,b] X.env= [(false,eval a X.env),(false,eval b X.env)]:=by rfl) (Qk:adU [b] X.env= [(false,eval b X.env)]:=by rfl):
  PI X tg (.Call (.Name "range" p) [a,b] [] pos) (Tt ta):=by
 intro pins s σ H R I h;refine Call_ (mj I hg hm boot_range (de (dJ (ha pos pins s σ H _ I h) λus s1 ⟨vs,H1,I1,r1,q1⟩=>?_) (by rw [hs,Qk]) (by rw [Qk];rfl)));obtain ⟨i,j,e,⟨q1,q2,q3,q4⟩,q⟩:=q1;subst e;cases r1 with
 |cons r rr=>
  cases rr with
  |cons r' rr=>
   cases rr;obtain ⟨t,rfl⟩:=r;obtain ⟨t',rfl⟩:=r';exact call_range_2 (AM I1 q1 q2 q3 q4 q)
def WS (wi:TI) (g:TG) (tb:TS):TS:=λD σ H=>wi σ H λJ H1=> ∃W:Nat->Nat->St->Hp->Prop,(∃m,W 0 m σ H1)/\∀i m σ H,W i m σ H->
 (J.stop i H/\D.nx σ H)∨(J.go i H/\∃N:St->Hp->Prop,(∀eX H',N eX H'->∃m',m'<m/\W (i+1) m' eX H')/\∀x H',J.Ik i H x H'->g x σ H' λkT H2=>tb {D with nx:=N,ct:=N,bk:=D.nx} kT H2)
def u1 (fp:List Addr) (h:adO):List (Addr×Obj):=fp.filterMap λb=>(h.get? b).map λo=>(b,o)
def pR {fp:List Addr} {h:adO} {b:Addr} {o:Obj} (hb:b∈fp) (e:h.get? b=some o):(b,o)∈u1 fp h:=bU.mpr ⟨b,hb,by rw [e];rfl⟩
def Gz {fp:List Addr} {h:adO} {p:Addr×Obj} (hp:p∈u1 fp h):p.1∈fp/\h.get? p.1=some p.2:=by
 obtain ⟨b,hb,e⟩:=bU.mp hp;cases q:h.get? b with
 |none=>rw [q] at e;cases e
 |some o=>
  rw [q] at e;have e':(b,o)=p:=bx e;subst e';exact ⟨hb,q⟩
def Inv.pinned {pins:List (Addr×Obj)} {σ:St} {H:Hp} {s:adN} {fp:List Addr} (I:Inv X pins σ H s) (hf: ∀b∈fp,tG X pins H b) (ho: ∀b∈fp, ∃o,s.heap.get? b=some o/\∀v,o.data≠ .cell v):Inv X (pins++u1 fp s.heap) σ H s:=
 I.EW λp hp=>(bG.mp hp).elim (λz=>I.pin p (cJ _ z)) λz=>by
  obtain ⟨hb,e⟩:=Gz z;obtain ⟨f0,f1,f2,_⟩:=hf p.1 hb;obtain ⟨o,e',d⟩:=ho p.1 hb;rw [e] at e';cases e';exact ⟨e,f0,f1,f2,d⟩
def Inv.qt {pins pl:List (Addr×Obj)} {σ:St} {H:Hp} {s:adN} (I:Inv X (pins++pl) σ H s):Inv X pins σ H s:=I.EW λp hp=>I.pin p (cJ _ (cT _ hp))
def dw {iter:adS} {body:List adZ} {wi:TI} {g:TG} {tb:TS} {pos:Pos} (hp:PassesOwn (adR X.prog X.w) X.A X.env X.xe) (hc:X.calm=true) (hi:PI X tg iter wi) (hg:PG X tg g) (hb:HI X body tb)
  (hs: ∀x,ae0 iter X.env x=pure x:=by intro _;rfl):PS X (.For tg iter body [] pos) (WS wi g tb):=by
 intro pins s σ H D I h;refine wpAny_For (dJ (hi pins s σ H _ I h) λv s1 h1=>dJ h1 λXH s2 h2=>?_) hs;obtain ⟨it,fp,tn,J,H2,e,I2,T,Vz,f2,W,⟨m0,w0⟩,turn⟩:=h2;subst e;have CU: ∀{H':Hp},(∀b∈fp,H' b=none)->∀b∈fp,tG X pins H' b:=λhn b hb=>⟨hn b hb,(f2 b hb).2⟩
 refine codeAny_forLoop_any (λn s'=> ∃i eX H',Inv X pins eX H' s'/\tn i s'.heap/\(∀b∈fp,H' b=none)/\W i n eX H') ?_ m0 ⟨0,σ,H2,I2,Vz,λb hb=>(f2 b hb).1,w0⟩;rintro n s3 ⟨i,Ii,H3,I3,Vy,fr3,w3⟩;rcases turn i n Ii H3 w3 with ⟨stop,qn⟩|⟨go,N,hN,step⟩
 ·refine aew hp (dJ (T.done X rfl rfl rfl hc i pins s3 Ii H3 X.xe I3 (CU fr3) Vy stop) λr s4 ⟨hr,I4⟩=>?_);subst hr;exact aeX ⟨Ii,H3,I4,qn⟩
 ·refine aew hp (dJ (T.item X rfl rfl rfl hc i pins s3 Ii H3 X.xe I3 (CU fr3) Vy go) λr s4 ⟨u,hr,h4⟩=>?_);subst hr;refine aew hp (dJ h4 λ_ s5 ⟨x,H5,I5,r5,y5,Rp,fr5⟩=>?_);have I5':=I5.pinned (CU fr5) (T.obj _ _ Rp);refine aew hp (dJ (hg _ s5 Ii H5 x u _ I5' r5 (step x H5 y5)) λ_ s6 ⟨σ6,H6,I6,q6⟩=>?_);refine aew hp (dJ (hb _ s6 σ6 H6 _ I6 q6) λf s7 q7=>?_);have again: ∀{Ih:St} {H7:Hp},Inv X (pins++u1 fp s5.heap) Ih H7 s7->N Ih H7->∃m,m<n/\∃i eX H',Inv X pins eX H' s7/\tn i s7.heap/\(∀b∈fp,H' b=none)/\W i m eX H':=λ{Ih H7} I7 n7=>by
   obtain ⟨m',hm,w7⟩:=hN Ih H7 n7;refine ⟨m',hm,i+1,Ih,H7,I7.qt,T.keep _ _ _ Rp λb hb o e=>(I7.pin (b,o) (cJ _ (cJ _ (pR hb e)))).1,λb hb=>?_,w7⟩;obtain ⟨o,e,d⟩:=T.obj _ _ Rp b hb;exact (I7.pin (b,o) (cJ _ (cJ _ (pR hb e)))).2.1
  cases f with
  |next=>obtain ⟨Ih,H7,I7,n7⟩:=q7;exact again I7 n7
  |cont=>obtain ⟨Ih,H7,I7,n7⟩:=q7;exact again I7 n7
  |brk=>obtain ⟨Ih,H7,I7,q7⟩:=q7;exact ⟨Ih,H7,I7.qt,q7⟩
  |ret v=>obtain ⟨x7,Ih,H7,I7,r7,q7⟩:=q7;exact ⟨x7,Ih,H7,I7.qt,r7,q7⟩
end
def fc {K:aa} {a:Addr} {xs:List V} {g:TG} {tb:TS} {D:Ends} {σ:St} {H:Hp} (Pv:Nat->St->Hp->Prop) (h0:Pv 0 σ H) (hl: ∀i σ H,i<=xs.length->Pv i σ H->iF K H a xs)
  (hs: ∀i x σ H,xs[i]?=some x->Pv i σ H->g x σ H λkT H2=>tb {D with nx:=Pv (i+1),ct:=Pv (i+1),bk:=D.nx} kT H2) (hd: ∀σ H,Pv xs.length σ H->D.nx σ H):
  ∃W:Nat->Nat->St->Hp->Prop,(∃m,W 0 m σ H)/\∀i m σ H,W i m σ H->
   ((OZ K a).stop i H/\D.nx σ H)∨((OZ K a).go i H/\∃N:St->Hp->Prop,(∀eX H',N eX H'->∃m',m'<m/\W (i+1) m' eX H')/\∀x H',(OZ K a).Ik i H x H'->g x σ H' λkT H2=>tb {D with nx:=N,ct:=N,bk:=D.nx} kT H2):=by
 refine ⟨λi m σ H=>m=xs.length-i/\i<=xs.length/\Pv i σ H,⟨xs.length,by simp,bv _,h0⟩,?_⟩;rintro i m σ H ⟨rfl,hi,p⟩;have q:=hl i σ H hi p;by_cases jd:i<xs.length
 ·refine .inr ⟨⟨xs,xs[i],q,by simp [jd]⟩,Pv (i+1),λeX H' p'=>⟨xs.length-(i+1),by omega,rfl,jd,p'⟩,λx H' y=>?_⟩;obtain ⟨e,y⟩:=y;subst e;exact hs i x σ _ (y xs q) p
 ·have e:i=xs.length:=by omega
  subst e;exact .inl ⟨⟨xs,q,ay _⟩,hd σ H p⟩
def ia {lo:Int} {n:Nat} {g:TG} {tb:TS} {D:Ends} {σ:St} {H:Hp} (Pv:Nat->St->Hp->Prop) (h0:Pv 0 σ H)
  (hs: ∀i σ H,i<n->Pv i σ H->g (.int (lo+i)) σ H λkT H2=>tb {D with nx:=Pv (i+1),ct:=Pv (i+1),bk:=D.nx} kT H2) (hd: ∀σ H,Pv n σ H->D.nx σ H):
  ∃W:Nat->Nat->St->Hp->Prop,(∃m,W 0 m σ H)/\∀i m σ H,W i m σ H->
   ((LP lo n).stop i H/\D.nx σ H)∨((LP lo n).go i H/\∃N:St->Hp->Prop,(∀eX H',N eX H'->∃m',m'<m/\W (i+1) m' eX H')/\∀x H',(LP lo n).Ik i H x H'->g x σ H' λkT H2=>tb {D with nx:=N,ct:=N,bk:=D.nx} kT H2):=by
 refine ⟨λi m σ H=>m=n-i/\i<=n/\Pv i σ H,⟨n,by simp,bv _,h0⟩,?_⟩;rintro i m σ H ⟨rfl,hi,p⟩;by_cases jd:i<n
 ·refine .inr ⟨jd,Pv (i+1),λeX H' p'=>⟨n-(i+1),by omega,rfl,jd,p'⟩,λx H' y=>?_⟩;obtain ⟨e,y⟩:=y;subst e y;exact hs i σ _ jd p
 ·have e:i=n:=by omega
  subst e;exact .inl ⟨ay _,hd σ H p⟩
end L2
namespace L2
open PySem PySem.Spec PyProof.Rows
abbrev R2:=V->V->Hp->VK->Prop
def sK (X:Cx) (f:Value->Value->Sem Value) (r:R2):Prop:=
 ∀(pins:List (Addr×Obj)) (s:adN) (σ:St) (H:Hp) (x y:V) (v u:Value) (Q:VK),Inv X pins σ H s->RelV x v->RelV y u->r x y H Q->
  wpAny (adR X.prog X.w) X.A (f v u) (EP X pins σ Q) X.xe s
def Zc (X:Cx) (f:Value->Sem Value) (r:V->Hp->VK->Prop):Prop:=
 ∀(pins:List (Addr×Obj)) (s:adN) (σ:St) (H:Hp) (x:V) (v:Value) (Q:VK),Inv X pins σ H s->RelV x v->r x H Q->
  wpAny (adR X.prog X.w) X.A (f v) (EP X pins σ Q) X.xe s
def jZ (X:Cx) (f:Value) (r:List V->Hp->VK->Prop):Prop:=
 ∀(pins:List (Addr×Obj)) (s:adN) (σ:St) (H:Hp) (xs:List V) (us:List Value) (Q:VK),Inv X pins σ H s->Vals xs us->r xs H Q->
  wpAny (adR X.prog X.w) X.A (call f us) (EP X pins σ Q) X.xe s
def Zd (X:Cx) (r:V->Hp->(Bool->Hp->Prop)->Prop):Prop:=
 ∀(pins:List (Addr×Obj)) (s:adN) (σ:St) (H:Hp) (x:V) (v:Value) (Q:Bool->Hp->Prop),Inv X pins σ H s->RelV x v->r x H Q->
  wpAny (adR X.prog X.w) X.A (truthy v) (TP X pins σ Q) X.xe s
def O9 (r:R2) (ta tb:TE):TE:=λσ H Q=>ta σ H λx H1=>tb σ H1 λy H2=>r x y H2 Q
def tUn (r:V->Hp->VK->Prop) (ta:TE):TE:=λσ H Q=>ta σ H λx H1=>r x H1 Q
def rI (C:Int->Int->Prop) (g:Int->Int->V):R2:=λx y H Q=> ∃i j,x= .int i/\y= .int j/\C i j/\Q (g i j) H
def Lx (g:Int->Int->V):R2:=λx y H Q=> ∃i j,x= .int i/\y= .int j/\Q (g i j) H
def rU (g:Int->V):V->Hp->VK->Prop:=λx H Q=> ∃i,x= .int i/\Q (g i) H
section
variable {X:Cx} {a b c:adS} {ta tb tc:TE} {pos:Pos}
def Q6 (ha:PE X a ta) (hb:PE X b tb) {pins:List (Addr×Obj)} {s:adN} {σ:St} {H:Hp} {R:V->V->Hp->Prop} (I:Inv X pins σ H s)
  (h:ta σ H λx H1=>tb σ H1 λy H2=>R x y H2) {Q:Value->adN->Prop} {f:Value->Value->Sem Value}
  (hf: ∀v u s2 x y H2,Inv X pins σ H2 s2->RelV x v->RelV y u->R x y H2->wpAny (adR X.prog X.w) X.A (f v u) Q X.xe s2):
  wpAny (adR X.prog X.w) X.A (eval a X.env) (λv dG=>wpAny (adR X.prog X.w) X.A (eval b X.env) (λu kF=>wpAny (adR X.prog X.w) X.A (f v u) Q X.xe kF) X.xe dG) X.xe s:=by
 refine dJ (ha pins s σ H _ I h) λv s1 ⟨x,H1,I1,r1,q1⟩=>?_;refine dJ (hb pins s1 σ H1 _ I1 q1) λu s2 ⟨y,H2,I2,r2,q2⟩=>?_;exact hf v u s2 x y H2 I2 r1 r2 q2
def bX {op:Operator} {r:R2} (ho:sK X (aec op) r) (ha:PE X a ta) (hb:PE X b tb):PE X (.BinOp a op b pos) (O9 r ta tb):=by
 intro pins s σ H Q I h;exact wpAny_BinOp (Q6 ha hb I h λv u s2 x y H2 I2 rx ry q=>ho pins s2 σ H2 x y v u Q I2 rx ry q)
def u4 {op:UnaryOp} {r:V->Hp->VK->Prop} (ho:Zc X (unaryOp op) r) (ha:PE X a ta):PE X (.UnaryOp op a pos) (tUn r ta):=by
 intro pins s σ H Q I h;exact UnaryOp_ (dJ (ha pins s σ H _ I h) λv s1 ⟨x,H1,I1,r1,q1⟩=>ho pins s1 σ H1 x v Q I1 r1 q1)
def S1 {f:Value->Value->Sem Value} {C:Int->Int->Prop} {g:Int->Int->Int}
  (rule: ∀(i j:Int) (t u:Tok) (s:adN) (Q:Value->adN->Prop) (E:Value->adN->Prop),C i j->Q (.int (g i j) s.toks) {s with toks:=s.toks+1}->wpAny (adR X.prog X.w) X.A (f (.int i t) (.int j u)) Q E s):
  sK X f (rI C λi j=> .int (g i j)):=by
 intro pins s σ H x y v u Q I rx ry h;obtain ⟨i,j,rfl,rfl,hc,q⟩:=h;obtain ⟨t,rfl⟩:=rx;obtain ⟨t',rfl⟩:=ry;exact rule i j t t' s _ _ hc ⟨.int (g i j),H,I.tok _,⟨_,rfl⟩,q⟩
def MR {f:Value->Value->Sem Value} {g:Int->Int->Int}
  (rule: ∀(i j:Int) (t u:Tok) (s:adN) (Q:Value->adN->Prop) (E:Value->adN->Prop),Q (.int (g i j) s.toks) {s with toks:=s.toks+1}->wpAny (adR X.prog X.w) X.A (f (.int i t) (.int j u)) Q E s):
  sK X f (Lx λi j=> .int (g i j)):=by
 intro pins s σ H x y v u Q I rx ry h;obtain ⟨i,j,rfl,rfl,q⟩:=h;obtain ⟨t,rfl⟩:=rx;obtain ⟨t',rfl⟩:=ry;exact rule i j t t' s _ _ ⟨.int (g i j),H,I.tok _,⟨_,rfl⟩,q⟩
def MS {f:Value->Value->Sem Value} {g:Int->Int->Bool}
  (rule: ∀(i j:Int) (t u:Tok) (s:adN) (Q:Value->adN->Prop) (E:Value->adN->Prop),Q (.bool (g i j)) s->wpAny (adR X.prog X.w) X.A (f (.int i t) (.int j u)) Q E s):
  sK X f (Lx λi j=> .bl (g i j)):=by
 intro pins s σ H x y v u Q I rx ry h;obtain ⟨i,j,rfl,rfl,q⟩:=h;obtain ⟨t,rfl⟩:=rx;obtain ⟨t',rfl⟩:=ry;exact rule i j t t' s _ _ ⟨.bl (g i j),H,I,rfl,q⟩
def Zl (i j:Int):Prop:=0<j/\j<1073741824
def Zk (i j:Int):Prop:=0<=j/\j<=1000000/\i.natAbs<2^64
def Rh (i j:Int):Prop:=(-(2^64)<i/\i<2^64)∨(-(2^64)<j/\j<2^64)
def Rh.ok {i j:Int} (h:Rh i j):IntMulOk i j:=by
 rcases h with ⟨h1,h2⟩|⟨h1,h2⟩
 ·exact .of_left (intBits_le_64 h1 h2)
 ·exact .of_right (intBits_le_64 h1 h2)
def CG (k:Nat):(0:Int)<=2^k:=by
 rw [two_pow_cast];exact Int.natCast_nonneg _
def fN:sK X (aec .Add) (Lx λi j=> .int (i+j)):=MR λ_ _ _ _ _ _ _ q=>add_int q
def gd:sK X (aec .Sub) (Lx λi j=> .int (i-j)):=MR λ_ _ _ _ _ _ _ q=>sub_int q
def vb:sK X (aec .Mult) (rI Rh λi j=> .int (i*j)):=S1 λ_ _ _ _ _ _ _ hc q=>mul_int q hc.ok
def MQ:sK X (aec .FloorDiv) (rI Zl λi j=> .int (i/j)):=S1 λi j _ _ _ _ _ hc q=>by
 have h1:(0:Int)<j:=hc.1;have h2:j<1073741824:=hc.2;exact floordiv_int (by omega) (by rw [zV i (by omega)];exact q) (.inl (zT (by omega)))
def Df:sK X (aec .Mod) (rI (λ_ j=>0<j) λi j=> .int (i%j)):=S1 λi j _ _ _ _ _ hc q=>by
 have h1:(0:Int)<j:=hc;exact mod_int' (by omega) (by rw [Int.fmod_eq_emod_of_nonneg i (by omega)];exact q)
def y4:sK X (aec .LShift) (rI Zk λi j=> .int (i*2^j.toNat)):=S1 λ_ _ _ _ _ _ _ hc q=>lshift_int_small hc.1 hc.2.1 hc.2.2 q
def JA:sK X (aec .RShift) (rI (λ_ j=>0<=j) λi j=> .int (i/2^j.toNat)):=S1 λi j _ _ _ _ _ hc q=>
 rshift_int hc (by rw [zV i (CG _)];exact q)
def y6:sK X (aec .BitAnd) (Lx λi j=> .int (Builtin.bitAnd i j)):=MR λ_ _ _ _ _ _ _ q=>and_int q
def SZ:sK X (aec .BitOr) (Lx λi j=> .int (Builtin.bitOr i j)):=MR λ_ _ _ _ _ _ _ q=>or_int q
def unI {f:Value->Sem Value} {g:Int->Int}
  (rule: ∀(i:Int) (t:Tok) (s:adN) (Q:Value->adN->Prop) (E:Value->adN->Prop),Q (.int (g i) s.toks) {s with toks:=s.toks+1}->wpAny (adR X.prog X.w) X.A (f (.int i t)) Q E s):
  Zc X f (rU λi=> .int (g i)):=by
 intro pins s σ H x v Q I rx h;obtain ⟨i,rfl,q⟩:=h;obtain ⟨t,rfl⟩:=rx;exact rule i t s _ _ ⟨.int (g i),H,I.tok _,⟨_,rfl⟩,q⟩
def pC:Zc X (unaryOp .USub) (rU λi=> .int (-i)):=unI λ_ _ _ _ _ q=>neg_int q
end
def SB:V->V->Bool
 | .fY, .fY=>true| .fY, .int _=>true| .int _, .fY=>true| .fY, .bl _=>true| .bl _, .fY=>true| .fY, .str _=>true| .str _, .fY=>true
 | .int _, .int _=>true| .bl _, .bl _=>true| .str _, .str _=>true| .zF _, .zF _=>true
 | .int _, .str _=>true| .str _, .int _=>true| .bl _, .str _=>true| .str _, .bl _=>true
 |_,_=>false
def rEq:R2:=λx y H Q=>SB x y=true/\Q (.bl (decide (x=y))) H
def rNe:R2:=λx y H Q=>SB x y=true/\Q (.bl (!decide (x=y))) H
def Fw {i j:Int}:decide (V.int i=V.int j)=(i==j):=by
 rw [aX];simp
def La {i j:Bool}:decide (V.bl i=V.bl j)=(i==j):=by
 rw [aX];simp
def Fv {i j:Str}:decide (V.str i=V.str j)=(i==j):=by
 rw [aX];simp
def Fx {i j:Array UInt8}:decide (V.zF i=V.zF j)=(i.toList==j.toList):=by
 rw [aX];cases i;cases j;simp
section
variable {X:Cx} {a b c:adS} {ta tb tc:TE} {pos:Pos}
def dr {pins:List (Addr×Obj)} {σ:St} {H:Hp} {s:adN} {Q:VK} {k k':Bool} (I:Inv X pins σ H s) (q:Q (.bl k) H) (e:k=k'):EP X pins σ Q (.bool k') s:=by
 subst e;exact ⟨.bl k,H,I,rfl,q⟩
def gg:sK X (ad6 .Eq) rEq:=by
 intro pins s σ H x y v u Q I rx ry h;obtain ⟨hs,q⟩:=h;cases x with
 |fY=>
  cases rx;cases y with
  |fY=>cases ry;exact Wx (dr I q (by simp))
  |bl j=>cases ry;exact Wz (dr I q (by simp))
  |int j=>obtain ⟨t',rfl⟩:=ry;exact Wy (dr I q (by simp))
  |str j=>obtain ⟨t',rfl⟩:=ry;exact Ww (dr I q (by simp))
  |_=>exact absurd (show false=true from hs) aJ
 |bl i=>
  cases rx;cases y with
  |fY=>cases ry;exact WB (dr I q (by simp))
  |bl j=>cases ry;exact eq_bool (dr I q La)
  |str j=>obtain ⟨t',rfl⟩:=ry;exact Vp (dr I q (by simp))
  |_=>exact absurd (show false=true from hs) aJ
 |int i=>
  obtain ⟨t,rfl⟩:=rx;cases y with
  |fY=>cases ry;exact WA (dr I q (by simp))
  |int j=>obtain ⟨t',rfl⟩:=ry;exact eq_int (dr I q Fw)
  |str j=>obtain ⟨t',rfl⟩:=ry;exact Vo (dr I q (by simp))
  |_=>exact absurd (show false=true from hs) aJ
 |str i=>
  obtain ⟨t,rfl⟩:=rx;cases y with
  |fY=>cases ry;exact Wv (dr I q (by simp))
  |bl j=>cases ry;exact Vn (dr I q (by simp))
  |int j=>obtain ⟨t',rfl⟩:=ry;exact Vm (dr I q (by simp))
  |str j=>obtain ⟨t',rfl⟩:=ry;exact eq_str (dr I q Fv)
  |_=>exact absurd (show false=true from hs) aJ
 |zF i=>
  obtain ⟨t,rfl⟩:=rx;cases y with
  |zF j=>obtain ⟨t',rfl⟩:=ry;exact PySem.W.eq_bytes (dr I q Fx)
  |_=>exact absurd (show false=true from hs) aJ
 |_=>cases y<;>exact absurd (show false=true from hs) aJ
def va:sK X (ad6 .NotEq) rNe:=by
 intro pins s σ H x y v u Q I rx ry h;obtain ⟨hs,q⟩:=h;cases x with
 |fY=>
  cases rx;cases y with
  |fY=>cases ry;exact Wq (dr I q (by simp))
  |bl j=>cases ry;exact Ws (dr I q (by simp))
  |int j=>obtain ⟨t',rfl⟩:=ry;exact Wr (dr I q (by simp))
  |str j=>obtain ⟨t',rfl⟩:=ry;exact Wp (dr I q (by simp))
  |_=>exact absurd (show false=true from hs) aJ
 |bl i=>
  cases rx;cases y with
  |fY=>cases ry;exact Wu (dr I q (by simp))
  |bl j=>cases ry;exact ne_bool (dr I q (congrArg not La))
  |str j=>obtain ⟨t',rfl⟩:=ry;exact Vl (dr I q (by simp))
  |_=>exact absurd (show false=true from hs) aJ
 |int i=>
  obtain ⟨t,rfl⟩:=rx;cases y with
  |fY=>cases ry;exact Wt (dr I q (by simp))
  |int j=>obtain ⟨t',rfl⟩:=ry;exact ne_int (dr I q (congrArg not Fw))
  |str j=>obtain ⟨t',rfl⟩:=ry;exact Vk (dr I q (by simp))
  |_=>exact absurd (show false=true from hs) aJ
 |str i=>
  obtain ⟨t,rfl⟩:=rx;cases y with
  |fY=>cases ry;exact Wo (dr I q (by simp))
  |bl j=>cases ry;exact Vj (dr I q (by simp))
  |int j=>obtain ⟨t',rfl⟩:=ry;exact Vi (dr I q (by simp))
  |str j=>obtain ⟨t',rfl⟩:=ry;exact ne_str (dr I q (congrArg not Fv))
  |_=>exact absurd (show false=true from hs) aJ
 |zF i=>
  obtain ⟨t,rfl⟩:=rx;cases y with
  |zF j=>obtain ⟨t',rfl⟩:=ry;exact PySem.W.ne_bytes (dr I q (congrArg not Fx))
  |_=>exact absurd (show false=true from hs) aJ
 |_=>cases y<;>exact absurd (show false=true from hs) aJ
def xP:sK X (ad6 .Lt) (Lx λi j=> .bl (decide (i<j))):=MS λ_ _ _ _ _ _ _ q=>lt_int q
def vc:sK X (ad6 .LtE) (Lx λi j=> .bl (decide (i<=j))):=MS λ_ _ _ _ _ _ _ q=>le_int q
def A7:sK X (ad6 .Gt) (Lx λi j=> .bl (decide (j<i))):=MS λ_ _ _ _ _ _ _ q=>gt_int q
def E4:sK X (ad6 .GtE) (Lx λi j=> .bl (decide (j<=i))):=MS λ_ _ _ _ _ _ _ q=>ge_int q
def bR (b:adS) {op:CmpOp} (h:op≠ .In:=by decide) (h2:op≠ .NotIn:=by decide):aej op b=false:=by
 have e1:(op==CmpOp.In)=false:=by cases op<;>first|rfl|exact absurd rfl h
 have e2:(op==CmpOp.NotIn)=false:=by cases op<;>first|rfl|exact absurd rfl h2
 cases b<;>simp [aej,e1,e2]
def dM {op:CmpOp} {r:R2} (ho:sK X (ad6 op) r) (ha:PE X a ta) (hb:PE X b tb) (hm:aej op b=false):PE X (.Compare a [op] [b] pos) (O9 r ta tb):=by
 intro pins s σ H Q I h;exact wpAny_Compare1 (Q6 ha hb I h λv u s2 x y H2 I2 rx ry q=>ho pins s2 σ H2 x y v u Q I2 rx ry q) hm
def N9 (t:TE):TT:=λσ H Q=>t σ H λx H'=> ∃k,x= .bl k/\Q k H'
def cD {op:CmpOp} {r:R2} (ho:sK X (ad6 op) r) (ha:PE X a ta) (hb:PE X b tb) (hm:aej op b=false):PT X (.Compare a [op] [b] pos) (N9 (O9 r ta tb)):=by
 intro pins s σ H Q I h;refine wpAny_isTrue_Compare1 (dJ (ha pins s σ H _ I h) λv s1 ⟨x,H1,I1,r1,q1⟩=>dJ (hb pins s1 σ H1 _ I1 q1) λu s2 ⟨y,H2,I2,r2,q2⟩=>
  dJ (ho pins s2 σ H2 x y v u _ I2 r1 r2 q2) λc s3 ⟨z,H3,I3,r3,k,e,q3⟩=>?_) hm
 subst e;cases r3;exact aen ⟨H3,I3,q3⟩
def Pf (r r':R2) (ta tb tc:TE):TE:=λσ H Q=>ta σ H λx H1=>tb σ H1 λy H2=>r x y H2 λz H3=> ∃k,z= .bl k/\
 (if k=true then tc σ H3 λw' H4=>r' y w' H4 Q else Q (.bl false) H3)
def Jx {op Xo:CmpOp} {r r':R2} (ho:sK X (ad6 op) r) (Cr:sK X (ad6 Xo) r') (ha:PE X a ta) (hb:PE X b tb) (hc:PE X c tc)
  (hm:lastMarks [op,Xo] [b,c]=false:=by with_unfolding_all rfl):PE X (.Compare a [op,Xo] [b,c] pos) (Pf r r' ta tb tc):=by
 intro pins s σ H Q I h;refine Compare_chain (dJ (ha pins s σ H _ I h) λv s1 ⟨x,H1,I1,r1,q1⟩=>chain_link (dJ (hb pins s1 σ H1 _ I1 q1) λu s2 ⟨y,H2,I2,r2,q2⟩=>
  dJ (ho pins s2 σ H2 x y v u _ I2 r1 r2 q2) λd s3 ⟨z,H3,I3,r3,k,e,q3⟩=>?_)) hm
 subst e;cases r3;refine aen ?_;cases k with
 |false=>exact ite_ff ⟨.bl false,H3,I3,rfl,q3⟩
 |true=>exact ite_tt (chain_last (dJ (hc pins s3 σ H3 _ I3 q3) λw' s4 ⟨z',H4,I4,r4,q4⟩=>Cr pins s4 σ H4 y z' u w' Q I4 r2 r4 q4))
def U8 (K:aa) (x:V) (H:Hp) (k:Bool):Prop:=
 match x with
 | .fY=>k=false
 | .bl b=>k=b
 | .int i=>k=(i !=0)
 | .str y=>y.length<=sizeLine/\k=((y.length:Int) !=0)
 | .zF y=>y.size<=sizeLine/\k=((y.size:Int) !=0)
 | .ref p=>(∃xs,iF K H p xs/\k=!xs.isEmpty)∨(∃xs,zK K H p xs/\k=!xs.isEmpty)∨∃kvs,H p=some (.dK kvs)/\k=!kvs.isEmpty
 |_=>False
def DJ {κ:Type} {kvs:List (κ×V)} {vs:List (κ×Value)} (r:KV kvs vs):(!vs.isEmpty)=!kvs.isEmpty:=by
 cases r<;>rfl
def vA {xs:List V} {its:List Value} (r:Vals xs its):(!its.toArray.isEmpty)=!xs.isEmpty:=by
 cases r<;>simp
def vk:(sizeLine:Nat)<2^63:=by rw [adY];decide
def O6:Zd X (λx H Q=> ∃k,U8 X.K x H k/\Q k H):=by
 intro pins s σ H x v Q I rx h;obtain ⟨k,e,q⟩:=h;have hl:=vk;have hs:sizeLine=16777216:=adY;cases x with
 |fY=>
  cases rx;have e':k=false:=e;subst e';exact truthy_none ⟨H,I,q⟩
 |bl b=>
  cases rx;have e':k=b:=e;subst e';exact aen ⟨H,I,q⟩
 |int i=>
  obtain ⟨t,rfl⟩:=rx;have e':k=(i !=0):=e;subst e';exact PySem.P.truthy_int ⟨H,I,q⟩
 |str y=>
  obtain ⟨t,rfl⟩:=rx;obtain ⟨hy,e'⟩:y.length<=sizeLine/\k=((y.length:Int) !=0):=e;subst e';exact PySem.P.truthy_str (by omega) ⟨H,I.tok _,q⟩
 |zF y=>
  obtain ⟨t,rfl⟩:=rx;obtain ⟨hy,e'⟩:y.size<=sizeLine/\k=((y.size:Int) !=0):=e;subst e';exact PySem.W.truthy_bytes (by omega) ⟨H,I.tok _,q⟩
 |ref p=>
  cases rx;have e':(∃xs,iF X.K H p xs/\k=!xs.isEmpty)∨(∃xs,zK X.K H p xs/\k=!xs.isEmpty)∨∃kvs,H p=some (.dK kvs)/\k=!kvs.isEmpty:=e;rcases e' with ⟨xs,hx,e'⟩|⟨xs,hx,e'⟩|⟨kvs,hx,e'⟩
  ·subst e';obtain ⟨its,r,pl,hz⟩:=I.list hx;have hlen:=r.length;exact wpAny_truthy_list pl.isList (by simp only [bf];omega) ⟨H,I.tok _,by rw [vA r];exact q⟩
  ·subst e';obtain ⟨its,r,pl,hz⟩:=I.tuple hx;have hlen:=r.length;exact truthy_tuple pl (by simp only [bf];omega) ⟨H,I.tok _,by rw [vA r];exact q⟩
  ·subst e';obtain ⟨hz,hS,vs,r,m⟩:kvs.length<=sizeLine/\(p==ad4)=false/\∃vs,KV kvs vs/\s.heap.DictOf (cI X.prog X.w) p vs:=I.cO p _ hx;have hlen:kvs.length=vs.length:=Paired.length r;exact wpAny_truthy_dict hS m (by omega) ⟨H,I.tok _,by rw [DJ r];exact q⟩
 |_=>exact (show False from e).elim
def AT (ha:PE X a ta) (he: ∀whole,isTrue a X.env whole=(do let v<-whole;standAt a.pos;aeE [v] (truthy v))):
  PT X a (λσ H Q=>ta σ H λx H'=> ∃k,U8 X.K x H' k/\Q k H'):=by
 intro pins s σ H Q I h;exact isTrue_plain (dJ (ha pins s σ H _ I h) λv s1 ⟨x,H1,I1,r1,q1⟩=>O6 pins s1 σ H1 x v Q I1 r1 q1) (he _)
def vals1 {x:V} {us:List Value} (r:Vals [x] us): ∃u,us= [u]/\RelV x u:=by
 cases r with
 |cons r1 r2=>cases r2;exact ⟨_,rfl,r1⟩
def vals2 {x y:V} {us:List Value} (r:Vals [x,y] us): ∃u w',us= [u,w']/\RelV x u/\RelV y w':=by
 cases r with
 |cons r1 r2=>
  cases r2 with
  |cons r3 r4=>cases r4;exact ⟨_,_,rfl,r1,r3⟩
def Hz (hc:X.calm=true):jZ X (.builtin "max") (λxs H Q=> ∃i j,xs= [.int i, .int j]/\Q (.int (if j>i then j else i)) H):=by
 intro pins s σ H xs us Q I r h;obtain ⟨i,j,rfl,q⟩:=h;obtain ⟨u,w',rfl,⟨t,rfl⟩,⟨t',rfl⟩⟩:=vals2 r;refine max_two_ints (I.ok.hd hc) λh' tk k=>⟨_,H,I.kept k,?_,q⟩
 by_cases hj:j>i
 ·rw [if_pos hj,if_pos hj];exact ⟨_,rfl⟩
 ·rw [if_neg hj,if_neg hj];exact ⟨_,rfl⟩
end
end L2
namespace L2
open PySem PySem.Spec PyProof.Rows
structure HK (h:adO) (x dx C:Addr) (mA:Str->Option Value):Prop where
 obj:h.get? x=some (eY C dx)
 ns:h.Ns1 dx mA
 ne:dx≠x
def GK {h:adO} {dx:Addr} {mA:Str->Option Value} (n:h.Ns1 dx mA): ∃od,h.get? dx=some od/\∀name,wt name od=some (mA name):=by
 obtain ⟨o,es,ep,ho,hd,hk,_,hm⟩:=n;refine ⟨o,ho,λname=>?_⟩;have e:=hm name;unfold nsFind findBy at e;rw [<-Array.find?_toList] at e;unfold wt;rw [hd];dsimp only;split
 ·rename_i y q
  rw [q] at e;exact congrArg some e
 ·rename_i q
  rw [q] at e;have a:es.toList.any (·.refKey)=false:=by
   rw [List.any_eq_false];intro y hy;obtain ⟨z,t,Qr⟩:=hk y (Array.mem_toList_iff.mp hy);simp [DictEntry.refKey,Qr]
  have a': ¬es.toList.any (·.refKey)=true:=by rw [a];exact aJ
  rw [if_neg a'];exact congrArg some e
def HK.look {h:adO} {x dx C:Addr} {mA:Str->Option Value} (I:HK h x dx C mA): ∃od,PySem.W.InstAt h x (eY C dx) C (some od)/\∀name,wt name od=some (mA name):=
 let ⟨od,ho,hl⟩:=GK I.ns
 ⟨od,⟨I.obj,rfl,rfl,ho⟩,hl⟩
section
variable {prog:adT} {w:adQ} {A:adW} {E:Value->adN->Prop} {s:adN} {K:aa} {x dx C f:Addr} {mA:Str->Option Value} {name:Str} {v:Value}
def get_map {expr:Bool} {Q:Value->adN->Prop} (X:K.In s.heap) (I:HK s.heap x dx C mA) (hg:lL K C name=true) (hh:kz K C=true)
  (ha:eM K (.ref C) name=some none) (hv:mA name=some v) (RA:HN v=true) (h:Q v {s with toks:=s.toks+1}):
  wpAny (adR prog w) A (getAttr (.ref x) name expr) Q E s:=by
 obtain ⟨od,J,hl⟩:=I.look;exact PySem.W.get_value X J (PySem.W.plainGet_of hg).1 (PySem.W.findObj_own hh ha rfl (by rw [hl,hv])) RA h
def Mr {ns:List Str} {Q:Unit->adN->Prop} (X:K.In s.heap) (I:HK s.heap x dx C mA)
  (hs:eM K (.ref C) "__setattr__" =some (some (.builtin "object.__setattr__"))) (hp:qZ K C=true) (ht:tI K C name=some none) (hh:kz K C=true)
  (hw:Cf mA ns) (hsz:ns.length<=sizeLine)
  (h: ∀h',HK h' x dx C (λy=>if y=name then some v else mA y)->Heap.SameBut dx s.heap h'->Q () {s with heap:=h',toks:=s.toks+2}):
  wpAny (adR prog w) A (setAttr (.ref x) name v) Q E s:=by
 obtain ⟨od,J,hl⟩:=I.look;refine PySem.W.set_plain X J hs (PySem.W.osa_open (s:={s with toks:=s.toks+1}) (r:=none) X J hp ht λb=>?_);obtain ⟨cd,hc,YB⟩:=PySem.W.any_some hh;have hx:s.heap.get? x=some ⟨.ref C,some dx, .plain, #[]⟩:=I.obj;refine adP (adV (adP (adP (wpAny_loadPart hx (adP (PySem.W.Looks.here (s:={s with toks:=s.toks+1}) (PySem.W.looks_clsIn X hc) ?_))))));rw [YB];refine adV (a:=some dx) (adP (adV (adP ?_)));refine wpAny_nsSet1 (s:={s with toks:=s.toks+1}) I.ns λh' Uc Qk=>?_;obtain ⟨oD,esD,epD,hoD,hdD,hcD⟩:=Uc.count (Wn name v hw);refine adP (wpAny_lookBehind hoD (by rw [hdD];exact pastItsLine_dict (aV hcD (by rw [aR];omega))) ?_);exact adV (h _ ⟨(Qk.2 _ (fz I.ne)).trans I.obj,Uc,I.ne⟩ Qk)
def JH {R:Result->adN->Prop} {vs:List Value} {kw:List (Str×Value)} (X:K.In s.heap) (hm:tJ K C=true)
  (hi:eM K (.ref C) "__init__" =some (some (.ref f))) (hf:PySem.W.typeIn K (.ref f)=some (.type "function"))
  (h:codeAny (adR prog w) (A.under (.builtin "type.__call__" ⟨.ref C::vs,kw⟩)) (.call (.ref f) ⟨.ref (s.heap.objs.size+1)::vs,kw⟩) (PySem.W.InitBack (s.heap.objs.size+1) R)
   {s with heap:=(s.heap.push dC).push (eY C s.heap.objs.size)}):
  codeAny (adR prog w) A (.call (.ref C) ⟨vs,kw⟩) R s:=by
 obtain ⟨hh,g,d,t,os⟩:=s;exact PySem.W.make_core (PySem.W.makes_of X hm) (PySem.W.looks_findIn X hi) (λself=>PySem.W.bind_fn X self hf) (.inl rfl) h
end
def li (f:Str) (v:V):List (Str×V)->List (Str×V)
 | []=> [(f,v)]
 |(g,x)::r=>if g=f then (g,v)::r else (g,x)::li f v r
def sE (f g:Str) (v:V): ∀fs:List (Str×V),(li f v fs).lookup g=if g=f then some v else fs.lookup g
 | []=>by
  show fW g [(f,v)]=_;by_cases h:g=f
  ·have hb:(g==f)=true:=beq_iff_eq.mpr h;simp only [fW,hb,if_pos h]
  ·have hb:(g==f)=false:=beq_eq_false_iff_ne.mpr h;simp only [fW,hb,if_neg h]
 |(k,x)::r=>by
  have ih:=sE f g v r;rw [show li f v ((k,x)::r)=(if k=f then (k,v)::r else (k,x)::li f v r) from rfl];by_cases hk:k=f
  ·rw [if_pos hk];by_cases h:g=k
   ·have hb:(g==k)=true:=beq_iff_eq.mpr h;simp only [fW,hb,if_pos (h.trans hk)]
   ·have hb:(g==k)=false:=beq_eq_false_iff_ne.mpr h;simp only [fW,hb,if_neg (λe:g=f=>h (e.trans hk.symm))]
  ·rw [if_neg hk];by_cases h:g=k
   ·have hb:(g==k)=true:=beq_iff_eq.mpr h;simp only [fW,hb,if_neg (λe:g=f=>hk (h.symm.trans e))]
   ·have hb:(g==k)=false:=beq_eq_false_iff_ne.mpr h;simp only [fW,hb];exact ih
def rQ (f:Str) (v:V): ∀fs:List (Str×V),f∈(li f v fs).map (·.1)/\∀g,g∈fs.map (·.1)->g∈(li f v fs).map (·.1)
 | []=>⟨by simp [li],λg h=>by simp at h⟩
 |(k,x)::r=>by
  obtain ⟨i1,i2⟩:=rQ f v r;rw [show li f v ((k,x)::r)=(if k=f then (k,v)::r else (k,x)::li f v r) from rfl];by_cases hk:k=f
  ·rw [if_pos hk];subst hk;exact ⟨by simp,λg h=>by simpa using h⟩
  ·rw [if_neg hk];refine ⟨?_,λg h=>?_⟩
   ·rw [be];exact aF _ i1
   ·rw [be] at h⊢;rcases aD.mp h with e|e
    ·exact aD.mpr (.inl e)
    ·exact aF _ (i2 g e)
def sF (f:Str) (v:V): ∀fs:List (Str×V),(li f v fs).length<=fs.length+1
 | []=>by simp [li]
 |(k,x)::r=>by
  have ih:=sF f v r;rw [show li f v ((k,x)::r)=(if k=f then (k,v)::r else (k,x)::li f v r) from rfl];by_cases hk:k=f
  ·rw [if_pos hk,aR,aR];omega
  ·rw [if_neg hk,aR,aR];omega
def j6.some_of {v:V} {o:Option Value} (r:j6 (some v) o): ∃u,o=some u/\RelV v u:=by
 cases o with
 |none=>exact (show False from r).elim
 |some u=>exact ⟨u,rfl,r⟩
def j6.none_of {o:Option Value} (r:j6 none o):o=none:=by
 cases o with
 |none=>rfl
 |some u=>exact (show False from r).elim
def G8 {v:V} {u:Value} (r:RelV v u):HN u=true:=by
 cases v with
 |fY=>cases (show u=Value.none from r);rfl
 |bl b=>cases (show u=Value.bool b from r);rfl
 |int i=>obtain ⟨t,e⟩:=(show∃t,u=Value.int i t from r);cases e;rfl
 |str x=>obtain ⟨t,e⟩:=(show∃t,u=Value.str x t from r);cases e;rfl
 |zF b=>obtain ⟨t,e⟩:=(show∃t,u=Value.bytes b t from r);cases e;rfl
 |UQ b=>obtain ⟨t,e⟩:=(show∃t,u=Value.float b t from r);cases e;rfl
 |ref a=>cases (show u=Value.ref a from r);rfl
 |ty n=>cases (show u=Value.type n from r);rfl
section
variable {P:adT} {w:adQ} {H H':Hp} {h h':adO} {a C dx:Addr} {fs UH:List (Str×V)}
def Fg (cO:oh P w H h) (e:H a=some (.ins C dx fs)): ∃mA,HK h a dx C mA/\(∀f,j6 (fs.lookup f) (mA f))/\Cf mA (fs.map (·.1))/\fs.length<=1000/\H dx=some (.own a):=by
 obtain ⟨d,z,ne,ob,mA,n,r,q⟩:=(show dZ P w H h a (.ins C dx fs) from cO a _ e)
 exact ⟨mA,⟨ob,n,ne⟩,r,q,z,d⟩
end
structure El (K:aa) (C:Addr):Prop where
 pg:lL K C Str.empty=true
 hd:kz K C=true
 po:qZ K C=true
 sa:eM K (.ref C) "__setattr__" =some (some (.builtin "object.__setattr__"))
def El.get {K:aa} {C:Addr} (c:El K C) (f:Str):lL K C f=true:=c.pg
def bF (K:aa) (C:Addr) (f:Str):Prop:=eM K (.ref C) f=some none
def bF.R3 {K:aa} {C:Addr} {f:Str} (n:bF K C f):tI K C f=some none:=by
 unfold tI;rw [show eM K (.ref C) f=some none from n];rfl
section
variable {X:Cx} {pins:List (Addr×Obj)} {σ:St} {H:Hp} {s:adN} {a C dx:Addr} {fs:List (Str×V)} {f:Str} {v:V} {A:adW} {E:Value->adN->Prop}
def DQ {b:Bool} {Q:Value->adN->Prop} (I:Inv X pins σ H s) (e:H a=some (.ins C dx fs)) (c:El X.K C) (n:bF X.K C f) (l:fs.lookup f=some v)
  (h: ∀u s',Inv X pins σ H s'->RelV v u->Q u s'):wpAny (adR X.prog X.w) A (getAttr (.ref a) f b) Q E s:=by
 obtain ⟨mA,O,r,_,_,_⟩:=Fg I.cO e;obtain ⟨u,hu,ru⟩:=j6.some_of (v:=v) (o:=mA f) (by rw [<-l];exact r f);exact get_map I.Fe O (c.get f) c.hd n hu (G8 ru) (h u _ (I.tok _) ru)
def CZ {y:V} {u:Value} {Q:Unit->adN->Prop} (I:Inv X pins σ H s) (e:H a=some (.ins C dx fs)) (c:El X.K C) (n:bF X.K C f) (hl:fs.length<1000) (ry:RelV y u)
  (h: ∀s',Inv X pins σ (upd H a (.ins C dx (li f y fs))) s'->Q () s'):wpAny (adR X.prog X.w) A (setAttr (.ref a) f u) Q E s:=by
 obtain ⟨mA,O,r,wi,_,ho⟩:=Fg I.cO e;have hz:(fs.map (·.1)).length<=sizeLine:=by rw [ab,adY];omega
 refine Mr I.Fe O c.sa c.po n.R3 c.hd wi hz λh' O' sb=>h _ ?_;have hd: ∃o,h'.get? dx=some o:=let ⟨o,_,_,e',_⟩:=O'.ns;⟨o,e'⟩
 refine I.write (x:=a) (e:=dx) (by rw [e];exact fy) (.inr ho) (λb q hb z=>(sb.2 b hb).trans z) hd ?_;refine ⟨by rw [bL O.ne];exact ho,?_,O.ne,O'.obj,_,O'.ns,λg=>?_,λg hg=>?_⟩
 ·have:=sF f y fs;omega
 ·show j6 ((li f y fs).lookup g) (if g=f then some u else mA g);rw [sE];by_cases q:g=f
  ·rw [if_pos q,if_pos q];exact ry
  ·rw [if_neg q,if_neg q];exact r g
 ·by_cases q:g=f
  ·rw [q];exact (rQ f y fs).1
  ·refine (rQ f y fs).2 g (wi g λz=>hg ?_);show (if g=f then some u else mA g)=none;rw [if_neg q];exact z
def Inv.made (I:Inv X pins σ H s):Inv X pins σ (upd (upd H s.heap.objs.size (.own (s.heap.objs.size+1))) (s.heap.objs.size+1) (.ins C s.heap.objs.size []))
  {s with heap:=(s.heap.push dC).push (eY C s.heap.objs.size)}:=by
 have e1:(s.heap.push dC).get? s.heap.objs.size=some dC:=Heap.get?_push_size s.heap rfl;have e2:((s.heap.push dC).push (eY C s.heap.objs.size)).get? (s.heap.objs.size+1)=some (eY C s.heap.objs.size):=by
  have:=Heap.get?_push_size (s.heap.push dC) (o:=eY C s.heap.objs.size) rfl
  rwa [Heap.size_push] at this
 have e3:(s.heap.push dC).Ns s.heap.objs.size (λ_=>none):=⟨dC, #[],_,e1,rfl,(λe he=>absurd he (by simp)),λ_=>rfl⟩
 have I1:=I.laid (a:=s.heap.objs.size) (o:= .own (s.heap.objs.size+1)) (h':=s.heap.push dC) (t':=s.toks) (λb u q=>Heap.get?_push_of_some _ q) (ay _) ⟨_,e1⟩;refine I1.laid (a:=s.heap.objs.size+1) (o:= .ins C s.heap.objs.size []) (t':=s.toks) (λb u q=>Heap.get?_push_of_some _ q) (tO (Heap.size_push _ _)) ?_;have ne:s.heap.objs.size≠s.heap.objs.size+1:=bH (fP _);refine ⟨by rw [bL ne,ak],bv _,ne,e2,λ_=>none,(Heap.Ns1.of_empty e3).at λo q=>Heap.get?_push_of_some _ q,λ_=>fy,λy hy=>absurd rfl hy⟩
def NX {prog:adT} {w:adQ} {env:Env} {e:adS} {f:Str} {pos:Pos} {s:adN} {Q:Value->adN->Prop} (hb:aeg e f env (eval e env)=eval e env)
  (h:wpAny (adR prog w) A (eval e env) (λo dG=>wpAny (adR prog w) A (getAttr o f true) Q E dG) E s):wpAny (adR prog w) A (eval (.Attribute e f pos) env) Q E s:=
 Attribute_any_ h (by rw [arm_eval_Attribute,hb])
end
def Mg (K:aa) (ta:TE) (f:Str):TE:=λσ H Q=>ta σ H λx H1=> ∃a C dx fs v,x= .ref a/\H1 a=some (.ins C dx fs)/\El K C/\bF K C f/\fs.lookup f=some v/\Q v H1
def W1 (K:aa) (ta tv:TE) (f:Str):TS:=λD σ H=>tv σ H λy H1=>ta σ H1 λx H2=> ∃a C dx fs,x= .ref a/\H2 a=some (.ins C dx fs)/\El K C/\bF K C f/\fs.length<1000/\
 D.nx σ (upd H2 a (.ins C dx (li f y fs)))
section
variable {X:Cx} {o e value:adS} {f:Str} {pos pos' mU:Pos} {ta tv:TE}
def aT (he:PE X e ta) (hb:aeg e f X.env (eval e X.env)=eval e X.env):PE X (.Attribute e f pos) (Mg X.K ta f):=by
 intro pins s σ H Q I h;refine NX hb (dJ (he pins s σ H _ I h) λu s1 ⟨x,H1,I1,rx,a,C,dx,fs,v,ex,ea,c,n,l,q⟩=>?_);subst ex;obtain rfl:u=Value.ref a:=rx;exact DQ I1 ea c n l λu' s2 I2 ru=>⟨v,H1,I2,ru,q⟩
def bW (ha:PE X o ta) (hv:PE X value tv) (hs:aeo value (some (.Attribute o f pos')) pos.line X.env=pure false):PS X (.Assign [.Attribute o f pos'] value pos) (W1 X.K ta tv f):=by
 intro pins s σ H D I h;refine plainObj_wpAny_Assign_Attribute (dJ (hv pins s σ H _ I h) λu s1 ⟨y,H1,I1,ry,q⟩=>dJ (ha pins s1 σ H1 _ I1 q) λov s2 ⟨x,H2,I2,rx,a,C,dx,fs,ex,ea,c,n,l,q2⟩=>?_) hs;subst ex;obtain rfl:ov=Value.ref a:=rx;exact CZ I2 ea c n l ry λs3 I3=>⟨σ,_,I3,q2⟩
end
end L2
namespace L2
open PySem PySem.Spec PyProof.Rows
structure iu (k:Nat) (A:adW):Prop where
 hd:A.handled=none
 dp:A.depth+3*k+5<recursionLimit
 un:A.units+16*k+200<ad0
def iu.mono {j k:Nat} {A:adW} (r:iu k A) (h:j<=k):iu j A:=⟨r.hd,by have:=r.dp;omega,by have:=r.un;omega⟩
def iu.deeper {k:Nat} {A:adW} (r:iu (k+1) A) (env:Env):iu k (A.deeper env):=
 ⟨r.hd,by have:=r.dp;show A.depth+1+3*k+5<_;omega,by have:=r.un;show A.units+3+16*k+200<_;omega⟩
def Dz {A:adW} {C:Addr} {us:List Value} {kw:List (Str×Value)}:(A.under (.builtin "type.__call__" ⟨.ref C::us,kw⟩)).depth=A.depth+1:=by
 first|rfl|simp [Around.under,Code.weight,Code.isCreation,Code.isGuard,Code.isCaller,Code.frames,Code.isFrame,guardIds]
def Dy {A:adW} {C:Addr} {us:List Value} {kw:List (Str×Value)}:(A.under (.builtin "type.__call__" ⟨.ref C::us,kw⟩)).units=A.units+1:=by
 first|rfl|simp [Around.under,Code.cUnits,Code.frames,Code.isFrame]
def iu.make {k:Nat} {A:adW} (r:iu (k+1) A) (C:Addr) (us:List Value) (kw:List (Str×Value)):iu k (A.under (.builtin "type.__call__" ⟨.ref C::us,kw⟩)):=
 ⟨r.hd,by have:=r.dp;rw [Dz];omega,by have:=r.un;rw [Dy];omega⟩
def iu.depth {k:Nat} {A:adW} (r:iu k A):A.depth<recursionLimit:=by have:=r.dp;omega
def iu.units {k:Nat} {A:adW} (r:iu k A):A.units+64<ad0:=by have:=r.un;omega
def oZ:TA:=λ_ H Q=>Q [] H
def iC (ta:TE) (tr:TA):TA:=λσ H Q=>ta σ H λx H1=>tr σ H1 λxs H2=>Q (x::xs) H2
section
variable {X:Cx} {e:adS} {es:List adS} {te:TE} {t:TA} {pos:Pos}
def ax:PA X [] oZ:=λ_ _ _ _ H Q I h=>Calls.spliced_nil ⟨[],H,I, .nil,h⟩
def ae (ha:PE X e te) (hr:PA X es t) (hs:adU (e::es) X.env=(false,eval e X.env)::adU es X.env:=by rfl):PA X (e::es) (iC te t):=by
 intro pos pins s σ H Q I h;rw [hs];show wpAny _ _ (spliced ((false,eval e X.env)::ad2 pos (adU es X.env))) _ _ s;refine Calls.spliced_cons (dJ (ha pins s σ H _ I h) λu s1 ⟨x,H1,I1,r1,q1⟩=>?_);exact dJ (hr pos pins s1 σ H1 _ I1 q1) λus s2 ⟨xs,H2,I2,r2,q2⟩=>⟨x::xs,H2,I2, .cons r1 r2,q2⟩
def WN (t:TA):TE:=λσ H Q=>t σ H λxs H1=>xs.length<=sizeLine/\∀p,H1 p=none->Q (.ref p) (upd H1 p (.tup xs))
def WQ (t:TA):TE:=λσ H Q=>t σ H λxs H1=>xs.length<=sizeLine/\∀p,H1 p=none->Q (.ref p) (upd H1 p (.lst xs))
def fM {x1} (h:PA X es t):PE X (.Tuple es x1 pos) (WN t):=by
 intro pins s σ H Q I hq;refine wpAny_Tuple_spliced (dJ (h pos pins s σ H _ I hq) λus s1 ⟨xs,H1,I1,r,z,q⟩=>⟨by rw [<-r.length];exact z,?_⟩);have hf:H1 s1.heap.objs.size=none:=I1.cO.fresh (ay _);refine ⟨.ref s1.heap.objs.size,upd H1 s1.heap.objs.size (.tup xs),I1.laid (t':=s1.toks) (λb u e=>Heap.get?_push_of_some _ e) (ay _) ?_,rfl,q _ hf⟩;exact ⟨z,us,r,⟨_,Heap.get?_push_size _ rfl,rfl,_,rfl⟩⟩
def bK (h:PA X es t):PE X (.List es pos) (WQ t):=by
 intro pins s σ H Q I hq;refine wpAny_List_spliced (dJ (h pos pins s σ H _ I hq) λus s1 ⟨xs,H1,I1,r,z,q⟩=>⟨by rw [<-r.length];exact z,?_⟩);have hf:H1 s1.heap.objs.size=none:=I1.cO.fresh (ay _);refine ⟨.ref s1.heap.objs.size,upd H1 s1.heap.objs.size (.lst xs),I1.laid (t':=s1.toks) (λb u e=>Heap.get?_push_of_some _ e) (ay _) ?_,rfl,q _ hf⟩;exact ⟨z,us,0,r,Heap.get?_push_size _ rfl⟩
end
abbrev Sp:=List V->Hp->VK->XK->Prop
abbrev HM:=List Env->Hp->adN->XK->Value->adN->Prop
structure Ej (P:adT) (w:adQ) (K:aa) (mg:Str->Option Value) (base:adO) (A:adW) (outer:List Env) (s:adN) (H:Hp):Prop where
 frames:A.frames=some outer
 mod:Mod K mg base
 bs: ∀b o,base.get? b=some o->s.heap.get? b=some o/\H b=none
 NV:base.objs.size<=s.heap.objs.size
 tw:s.heap.FunFrames base outer
 QD: ∀b∈Kg outer,H b=none
 cO:oh P w H s.heap
 bare:AllBare s.gens
def CE (outer:List Env) (P:adT) (w:adQ) (H:Hp) (s:adN) (Q:VK) (u:Value) (s':adN):Prop:=
 ∃v H',s'.os=s.os/\AllBare s'.gens/\Un (Kg outer) [] H H' s.heap s'.heap/\oh P w H' s'.heap/\RelV v u/\Q v H'
def CR (CX:HM) (outer:List Env) (P:adT) (w:adQ) (H:Hp) (s:adN) (Q:VK) (E:XK) (r:Result) (s':adN):Prop:=
 match r with
 | .ok (.ret u)=>CE outer P w H s Q u s'
 | .ok _=>False
 | .error e=>CX outer H s E e s'
structure kO (P:adT) (w:adQ) (K:aa) (mg:Str->Option Value) (base:adO) (CX:HM) (k:Nat) (f:Addr) (fd:ad7) (ps:List Str) (sp:Sp):Prop where
 len: ∀vs H Q E,sp vs H Q E->vs.length=ps.length
 run: ∀(A:adW) (outer:List Env) (s:adN) (H:Hp) (args:Args) (us:List Value) (vs:List V) (Q:VK) (E:XK),iu k A->Ej P w K mg base A outer s H->aeF s fd args (ps.zip us)->Vals vs us->sp vs H Q E->
  codeAny (adR P w) A (.call (.ref f) args) (CR CX outer P w H s Q E) s
def kO.mono {P:adT} {w:adQ} {K:aa} {mg:Str->Option Value} {base:adO} {CX:HM} {j k:Nat} {f:Addr} {fd:ad7} {ps:List Str} {sp:Sp} (F:kO P w K mg base CX j f fd ps sp) (h:j<=k):
  kO P w K mg base CX k f fd ps sp:=⟨F.len,λA outer s H args us vs Q E hr=>F.run A outer s H args us vs Q E (hr.mono h)⟩
def Ej.make {P:adT} {w:adQ} {K:aa} {mg:Str->Option Value} {base:adO} {A:adW} {outer:List Env} {s:adN} {H:Hp} (e:Ej P w K mg base A outer s H) (C:Addr) (us:List Value) (kw:List (Str×Value)):
  Ej P w K mg base (A.under (.builtin "type.__call__" ⟨.ref C::us,kw⟩)) outer s H:=⟨by first|exact e.frames|(simpa [Around.under,Code.envs,Code.isFrame,pushEnvs] using e.frames),e.mod,e.bs,e.NV,e.tw,e.QD,e.cO,e.bare⟩
section
variable {X:Cx} {pins:List (Addr×Obj)} {σ:St} {H:Hp} {s s':adN}
def Inv.UU (I:Inv X pins σ H s):Ej X.prog X.w X.K X.mg X.base X.A X.stack s H:=
 ⟨I.ok.frames,I.ok.mod,I.bs,aV I.ok.NV I.sz,I.stack,I.Es,I.cO,I.bare⟩
def Inv.after {Q:VK} {u:Value} (I:Inv X pins σ H s) (h:CE X.stack X.prog X.w H s Q u s'):EP X pins σ Q u s':=by
 obtain ⟨v,H',os,bare,un,cO,r,q⟩:=h;obtain ⟨hh,g,d,t,os'⟩:=s';obtain rfl:os'=s.os:=os;exact ⟨v,H',I.call (h':=hh) (g':=g) (d':=d) (t':=t) (ch:= []) un cO bare (λb z=>absurd z (by simp)),r,q⟩
end
def Ep (sp:Sp) (BK:List V) (E:XK) (t:TA):TE:=λσ H Q=>t σ H λvs H1=>sp (vs++BK) H1 Q E
def Eo (C:Addr) (sp:Sp) (BK:List V) (E:XK) (t:TA):TE:=λσ H Q=>t σ H λvs H1=> ∀x dx,H1 x=none->H1 dx=none->dx≠x->
 sp (.ref x::(vs++BK)) (upd (upd H1 dx (.own x)) x (.ins C dx [])) (λv H2=>v= .fY/\Q (.ref x) H2) E
def Binds (K:aa) (fd:ad7) (ps:List Str) (ds:List Value):Prop:=
 ∀(s:adN) (us:List Value),K.In s.heap->(us++ds).length=ps.length->aeF s fd ⟨us,[]⟩ (ps.zip (us++ds))
def Binds.all {K:aa} {fd:ad7} {ps:List Str} (h: ∀us:List Value,us.length=ps.length->bindArgs fd ⟨us,[]⟩=pure (ps.zip us)):Binds K fd ps []:=λs us _ hl=>by
 rw [di] at hl⊢;exact .of_eq (h us hl)
def Passes (CX:HM) (X:Cx) (E:XK):Prop:= ∀(pins:List (Addr×Obj)) (σ:St) (H:Hp) (s:adN) (e:Value) (s':adN),Inv X pins σ H s->CX X.stack H s E e s'->X.xe e s'
section
variable {X:Cx} {CX:HM} {k:Nat} {f C:Addr} {fd:ad7} {ps:List Str} {sp:Sp} {BK:List V} {ds:List Value} {E:XK} {x m:Str} {p pos apos:Pos} {e o:adS} {es:List adS} {ta:TE} {t:TA}
def Jb {pins:List (Addr×Obj)} {σ:St} {H:Hp} {s:adN} {Q:VK} {us:List Value} {vs:List V} (F:kO X.prog X.w X.K X.mg X.base CX k f fd ps sp) (hr:iu k X.A) (hb:Binds X.K fd ps ds) (hd:Vals BK ds) (hx:Passes CX X E)
  (I:Inv X pins σ H s) (r:Vals vs us) (h:sp (vs++BK) H Q E):wpAny (adR X.prog X.w) X.A (call (.ref f) us) (EP X pins σ Q) X.xe s:=by
 have r2:Vals (vs++BK) (us++ds):=r.append hd;have hl:(us++ds).length=ps.length:=by rw [<-r2.length];exact F.len _ _ _ _ h
 refine ae1 (aey (F.run X.A X.stack s H ⟨us,[]⟩ (us++ds) (vs++BK) Q E hr I.UU (hb s us I.Fe hl) r2 h) λr s' hq=>?_);cases r with
 |error e=>exact hx pins σ H s e s' I hq
 |ok fl=>
  cases fl with
  |ret u=>exact I.after hq
  |next=>exact dj hq
  |brk=>exact dj hq
  |cont=>exact dj hq
def MN (F:kO X.prog X.w X.K X.mg X.base CX k f fd ps sp) (hr:iu k X.A) (hg:Gl X x) (hm:X.mg x=some (.ref f)) (hk:eL X.K (.ref f)=true) (hb:Binds X.K fd ps ds) (hd:Vals BK ds) (hx:Passes CX X E)
  (ha:PA X (e::es) t) (DO:(x==("__debug__" :Str))=false:=by decide) (he:adU (e::es) X.env=(false,eval e X.env)::adU es X.env:=by rfl) (hpl:(ad2 pos (adU es X.env)).any (·.1)=false:=by rfl):
  PE X (.Call (.Name x p) (e::es) [] pos) (Ep sp BK E t):=by
 intro pins s σ H Q I h;refine aez (t6 I hg hm ?_ DO);refine qe (h₀:=X.base) I.ok.mod.Tp hk (dJ (ha pos pins s σ H _ I h) λus s1 ⟨vs,H1,I1,r,q⟩=>⟨I1.Fe,?_⟩) he hpl;exact Jb F hr hb hd hx I1 r q
structure Mk (K:aa) (C f:Addr):Prop where
 makes:tJ K C=true
 init:eM K (.ref C) "__init__" =some (some (.ref f))
 fn:N4 K (.ref f)=true
 kp:eL K (.ref C)=true
def AE {pins:List (Addr×Obj)} {σ:St} {H:Hp} {s:adN} {Q:VK} {us:List Value} {vs:List V} (M:Mk X.K C f) (F:kO X.prog X.w X.K X.mg X.base CX k f fd ps sp) (hr:iu (k+1) X.A) (hb:Binds X.K fd ps ds) (hd:Vals BK ds)
  (hx:Passes CX X E) (I:Inv X pins σ H s) (r:Vals vs us)
  (h: ∀x dx,H x=none->H dx=none->dx≠x->sp (.ref x::(vs++BK)) (upd (upd H dx (.own x)) x (.ins C dx [])) (λv H2=>v= .fY/\Q (.ref x) H2) E):
  wpAny (adR X.prog X.w) X.A (call (.ref C) us) (EP X pins σ Q) X.xe s:=by
 have hq:=h (s.heap.objs.size+1) s.heap.objs.size (I.cO.fresh (lT _)) (I.cO.fresh (ay _)) (bH (fP _));have I2:=Inv.made (C:=C) I;have r2:Vals (V.ref (s.heap.objs.size+1)::(vs++BK)) (Value.ref (s.heap.objs.size+1)::(us++ds)):= .cons rfl (r.append hd);have hl:(Value.ref (s.heap.objs.size+1)::us++ds).length=ps.length:=by
  have e:=r2.length;rw [F.len _ _ _ _ hq] at e;exact e.symm
 refine ae1 (JH (f:=f) I.Fe M.makes M.init (beq_iff_eq.mp M.fn) (aey (F.run _ X.stack _ _ ⟨Value.ref (s.heap.objs.size+1)::us,[]⟩ (Value.ref (s.heap.objs.size+1)::(us++ds)) _ _ E (hr.make C us [])
  (I2.UU.make C us []) (hb _ (Value.ref (s.heap.objs.size+1)::us) I2.Fe hl) r2 hq) λr s' OC=>?_))
 cases r with
 |error e=>exact hx pins σ _ _ e s' I2 OC
 |ok fl=>
  cases fl with
  |ret u=>
   obtain ⟨v,H',I3,rv,ev,q3⟩:=I2.after OC;subst ev;exact ⟨rv,⟨V.ref (s.heap.objs.size+1),H',I3,rfl,q3⟩⟩
  |next=>exact dj OC
  |brk=>exact dj OC
  |cont=>exact dj OC
def ML (M:Mk X.K C f) (F:kO X.prog X.w X.K X.mg X.base CX k f fd ps sp) (hr:iu (k+1) X.A) (hg:Gl X x) (hm:X.mg x=some (.ref C)) (hb:Binds X.K fd ps ds) (hd:Vals BK ds) (hx:Passes CX X E)
  (ha:PA X (e::es) t) (DO:(x==("__debug__" :Str))=false:=by decide) (he:adU (e::es) X.env=(false,eval e X.env)::adU es X.env:=by rfl) (hpl:(ad2 pos (adU es X.env)).any (·.1)=false:=by rfl):
  PE X (.Call (.Name x p) (e::es) [] pos) (Eo C sp BK E t):=by
 intro pins s σ H Q I h;refine aez (t6 I hg hm ?_ DO);refine qe (h₀:=X.base) I.ok.mod.Tp M.kp (dJ (ha pos pins s σ H _ I h) λus s1 ⟨vs,H1,I1,r,q⟩=>⟨I1.Fe,?_⟩) he hpl;exact AE M F hr hb hd hx I1 r q
def Js (M:Mk X.K C f) (F:kO X.prog X.w X.K X.mg X.base CX k f fd ps sp) (hr:iu (k+1) X.A) (hg:Gl X x) (hm:X.mg x=some (.ref C)) (hb:Binds X.K fd ps ds) (hd:Vals BK ds) (hx:Passes CX X E)
  (DO:(x==("__debug__" :Str))=false:=by decide):PE X (.Call (.Name x p) [] [] pos) (Eo C sp BK E oZ):=by
 intro pins s σ H Q I h;refine aez (t6 I hg hm ?_ DO);exact PySem.W.callWith_K0 I.Fe M.kp (AE (us:= []) M F hr hb hd hx I .nil h)
end
def PK (X:Cx) (Tn:List aed) (t:TA):Prop:=
 ∀(pos:Pos) (pins:List (Addr×Obj)) (s:adN) (σ:St) (H:Hp) (Q:List V->Hp->Prop),Inv X pins σ H s->t σ H Q->wpAny (adR X.prog X.w) X.A (evalAll ((aeq pos (aer Tn X.env)).map (·.2))) (AP X pins σ Q) X.xe s
section
variable {X:Cx} {CX:HM} {k:Nat} {f C:Addr} {fd:ad7} {ps ks:List Str} {sp:Sp} {E:XK} {x m:Str} {p pos apos DI:Pos} {e o:adS} {es:List adS} {Tn:List aed} {te ta:TE} {t tk:TA} {nm:Option Str}
def Jp:PK X [] oZ:=λ_ _ _ _ H Q I h=>wpAny_evalAll_nil ⟨[],H,I, .nil,h⟩
def EV (ha:PE X e te) (hr:PK X Tn t):PK X (⟨nm,e,DI⟩::Tn) (iC te t):=by
 intro pos pins s σ H Q I h;show wpAny _ _ (evalAll ((do let v<-eval e X.env;standAt pos;pure v)::(aeq pos (aer Tn X.env)).map (·.2))) _ _ s;refine wpAny_evalAll_cons (adP (dJ (ha pins s σ H _ I h) λu s1 ⟨x,H1,I1,r1,q1⟩=>adP (aeO (adV ?_))));exact dJ (hr pos pins s1 σ H1 _ I1 q1) λus s2 ⟨xs,H2,I2,r2,q2⟩=>⟨x::xs,H2,I2, .cons r1 r2,q2⟩
variable {g:List Value->List Value->List Value} {gV:List V->List V->List V}
end
structure bh (N P:List Str) (sc:ad1):Prop where
 kind:sc.kind= .function
 co:sc.isCoroutine=false
 gen:sc.isGenerator=false
 nd:N.Nodup
 pre:N.take P.length=P
 par: ∀x∈P,sc.names.lookup x=some .local∨sc.names.lookup x=some .cell
 PM: ∀y∈sc.names,y.2≠ .free
def yh {kindOf:Str->Option ad8} {x:Str}: ∀{binds:List (Str×Value)} {m:Str->Option Value},(∀v,(x,v)∉binds)->bindL kindOf binds m x=m x
 | [],_,_=>rfl
 |(n,v)::r,m,h=>by
  unfold bindL;rw [yh λw hw=>h w (aF _ hw)];split
  ·have:x≠n:=by rintro rfl;exact h v aM
   simp [this]
  ·rfl
def yj {kindOf:Str->Option ad8} {x:Str}: ∀{binds:List (Str×Value)} {m:Str->Option Value},(∀v,(x,v)∉binds)->bindC kindOf binds m x=m x
 | [],_,_=>rfl
 |(n,v)::r,m,h=>by
  unfold bindC;rw [yj λw hw=>h w (aF _ hw)];split
  ·rfl
  ·have:x≠n:=by rintro rfl;exact h v aM
   simp [this]
def yi {kindOf:Str->Option ad8} {x:Str} {v:Value}: ∀{P:List Str} {vs:List Value} {i:Nat} {m:Str->Option Value},P.Nodup->P[i]?=some x->vs[i]?=some v->kindOf x=some .local->
  bindL kindOf (P.zip vs) m x=some v
 | [],_,_,_,_,h,_,_=>by simp at h
 |_::_,[],_,_,_,_,h,_=>by simp at h
 |p::P,w::vs,0,m,nd,h1,h2,hk=>by
  simp at h1 h2;subst h1;subst h2;show bindL kindOf ((p,w)::P.zip vs) m p=_;unfold bindL;rw [yh λv hv=>(bo.mp nd).1 (wJ hv).1,if_pos hk];simp
 |p::P,w::vs,i+1,m,nd,h1,h2,hk=>by
  show bindL kindOf ((p,w)::P.zip vs) m x=_;unfold bindL;exact yi (i:=i) (bo.mp nd).2 (by simpa using h1) (by simpa using h2) hk
def yk {kindOf:Str->Option ad8} {x:Str} {v:Value}: ∀{P:List Str} {vs:List Value} {i:Nat} {m:Str->Option Value},P.Nodup->P[i]?=some x->vs[i]?=some v->kindOf x≠some .local->
  bindC kindOf (P.zip vs) m x=some v
 | [],_,_,_,_,h,_,_=>by simp at h
 |_::_,[],_,_,_,_,h,_=>by simp at h
 |p::P,w::vs,0,m,nd,h1,h2,hk=>by
  simp at h1 h2;subst h1;subst h2;show bindC kindOf ((p,w)::P.zip vs) m p=_;unfold bindC;rw [yj λv hv=>(bo.mp nd).1 (wJ hv).1,if_neg hk];simp
 |p::P,w::vs,i+1,m,nd,h1,h2,hk=>by
  show bindC kindOf ((p,w)::P.zip vs) m x=_;unfold bindC;exact yk (i:=i) (bo.mp nd).2 (by simpa using h1) (by simpa using h2) hk
def start (N:List Str) (vs:List V):St:=vs.map some++cS (N.length-vs.length) none
def Hv (CX:HM) (P:adT) (w:adQ) (K:aa) (mg:Str->Option Value) (base:adO) (N:List Str) (qual:Str) (scope:ad1) (f:Addr) (cd:Value) (A:adW) (outer:List Env) (s:adN) (H:Hp) (E:XK):Cx where
 prog:=P
 w:=w
 K:=K
 mg:=mg
 base:=base
 A:=A.deeper (envOfC qual scope s.heap.objs.size f cd)
 N:=N
 xJ:=s
 Re:=H
 env:=envOfC qual scope s.heap.objs.size f cd
 outer:=outer
 stack:=envOfC qual scope s.heap.objs.size f cd::outer
 ex:= []
 calm:=true
 fn:=λ_=>true
 pn:= []
 xe:=λe s'=>wpAny (adR P w) (A.deeper (envOfC qual scope s.heap.objs.size f cd)) (leaving (envOfC qual scope s.heap.objs.size f cd) e) (λ_ W3=>CX outer H s E e W3) (λe' W3=>CX outer H s E e' W3) s'
def BR {sc:ad1} {n:Nat} {x:Str} (h:sc.names.lookup x=some .cell): ∃c,(ad3 n sc.names []).lookup x=some c:=by
 have q:=zR sc.names n [] (.inl h);exact yu.mp q
def GR {CX:HM} {P:adT} {w:adQ} {K:aa} {mg:Str->Option Value} {base:adO} {N ps:List Str} {qual:Str} {scope:ad1} {f:Addr} {cd:Value} {A:adW} {outer:List Env} {s s1:adN} {H:Hp} {E:XK} {us:List Value} {vs:List V}
  (S:bh N ps scope) (hd:A.handled=none) (e0:Ej P w K mg base A outer s H) (hl:vs.length=ps.length) (r:Vals vs us)
  (x:InCallC s s.heap.objs.size (bindL (envOfC qual scope s.heap.objs.size f cd).kindOf (ps.zip us) λ_=>none) (ad3 (s.heap.objs.size+1) scope.names []) (bindC (envOfC qual scope s.heap.objs.size f cd).kindOf (ps.zip us) λ_=>none) s1):
  Inv (Hv CX P w K mg base N qual scope f cd A outer s H E) [] (start N vs) H s1:=by
 have hpl:ps.length<=N.length:=by have:=congrArg wx S.pre;rw [bc] at this;omega
 obtain ⟨h1,tk,rfl,hk⟩:=x.done;have Rt: ∀b:Addr,b∉(Hv CX P w K mg base N qual scope f cd A outer s H E).ex:=λb z=>absurd (show b∈([]:List Addr) from z) (by simp);refine ⟨⟨e0.mod,S.kind,rfl,rfl,ay _,λy z c h1 h2=>?_,λy hy=>?_,λy c _ h=>?_,λ_=>hd,Around.frames_deeper e0.frames, .inr ⟨rfl,rfl⟩,λb z=>absurd z (Rt b),e0.bs,e0.NV,λb _ _=>Rt b,λb z=>absurd z (Rt b),e0.tw,e0.QD⟩,
  rfl,e0.bare,Un.kept hk,⟨_,x.toInCall.ns,λi y v h1 h2 h3=>?_⟩,λy c h=>⟨_,x.cell y c h⟩,e0.cO.fresh (ay _),λy c h=>?_,λp hp=>absurd (show p∈([]:List (Addr×Obj)) from hp) (by simp),e0.cO.kept hk,?_⟩
 ·exact name_of_addr x.apart (bO h1) (bO h2)
 ·have hy:scope.names.lookup y=some .cell∨scope.names.lookup y=some .free:=hy;rcases hy with hy|hy
  ·exact BR hy
  ·exact absurd rfl (S.PM _ (bO hy))
 ·exact j8 (x.above y c (bO h))
 ·have hi:i<vs.length:=by
   unfold start at h2;by_cases hi:i<vs.length
   ·exact hi
   ·rw [cA (by simpa using hi)] at h2;rw [List.getElem?_replicate] at h2;split at h2<;>cases h2
  have ha:vs[i]?=some v:=by
   unfold start at h2;rw [bV (by simpa using hi),br] at h2;cases e:vs[i]? with
   |none=>rw [e] at h2;cases h2
   |some a=>rw [e] at h2;cases h2;rfl
  obtain ⟨u,hu,rv⟩:=r.get ha;have hp:ps[i]?=some y:=by
   rw [<-S.pre,List.getElem?_take_of_lt (by omega)];exact h1
  have ZC:ps.Nodup:=by rw [<-S.pre];exact S.nd.sublist (List.take_sublist _ _)
  refine ⟨u,rv,?_⟩;rcases S.par y (aI hp) with k|k
  ·exact .inl ⟨k,yi ZC hp hu k⟩
  ·obtain ⟨c,e⟩:=BR (n:=s.heap.objs.size+1) k;refine .inr ⟨.inl k,c,e,?_⟩;have q:=x.cell y c e;rw [yk ZC hp hu (by show scope.names.lookup y≠_;rw [k];decide)] at q;exact q
 ·exact e0.cO.fresh (j8 (x.above y c (bO h)))
 ·unfold start;show _=N.length;rw [aL,ab,List.length_replicate];omega
def UL {CX:HM} {P:adT} {w:adQ} {K:aa} {mg:Str->Option Value} {base:adO} {k:Nat} {f:Addr} {name qual:Str} {params:Arguments} {body:List adZ} {scope:ad1} {dV kV doc pm dD ct oc:Value} {an od:Option Addr}
  {wA:Array (Option Value)} {N ps:List Str} {sp:Sp} (lk:K.lookup f=some ⟨oc,od, .func (fe name qual params body scope dV kV doc pm an dD ct),wA⟩) (G0:j0 K dD qual=true) (S:bh N ps scope)
  (len: ∀vs H Q E,sp vs H Q E->vs.length=ps.length)
  (J7: ∀(A:adW) (outer:List Env) (s:adN) (H:Hp) (vs:List V) (Q:VK) (E:XK),iu k (A.deeper (envOfC qual scope s.heap.objs.size f dD))->sp vs H Q E->
   ∃t,HI (Hv CX P w K mg base N qual scope f dD A outer s H E) body t/\t {nx:=λ_ H'=>Q .fY H',rt:=Q} (start N vs) H):
  kO P w K mg base CX (k+1) f (fe name qual params body scope dV kV doc pm an dD ct) ps sp:=by
 refine ⟨len,λA outer s H args us vs Q E hr e0 hb r LD=>?_⟩;have hl:=len _ _ _ _ LD;have KX:K.In s.heap:=e0.mod.Tp.keeps λb o e=>(e0.bs b o e).1;have lim:s.heap.NoLimit:=e0.mod.nolimit.keeps λb o e=>(e0.bs b o e).1;have Ul: ∀y∈ps.zip us,scope.names.lookup y.1=some .local∨(scope.names.lookup y.1=some .cell/\((ad3 (s.heap.objs.size+1) scope.names []).lookup y.1).isSome=true):=λ⟨n,v⟩ hy=>by
  rcases S.par n (wJ hy).1 with q|q
  ·exact .inl q
  ·exact .inr ⟨q,zR _ _ _ (.inl q)⟩
 refine codeAny_call_function hr.depth (KX _ _ lk) rfl S.co S.gen rfl (PySem.W.codeRec_of KX G0) (hb _ _ _ _ ?_);refine wpAny_newFunctionEnv_cells S.kind Ul λenv he s1 x=>?_;subst he;refine ⟨lim.keeps x.toInCall.keep,codeAny_func ?_⟩;obtain ⟨t,ht,hq⟩:=J7 A outer s H vs Q E (hr.deeper _) LD;have I:Inv (Hv CX P w K mg base N qual scope f dD A outer s H E) [] (start N vs) H s1:=GR S hr.hd e0 hl r x;refine wpAny_mono (ht [] s1 (start N vs) H _ I hq) (λfl s' hs=>?_) λe s' hs=>hs;have fin: ∀{eX:St} {H':Hp} {v:V} {u:Value},Inv (Hv CX P w K mg base N qual scope f dD A outer s H E) [] eX H' s'->RelV v u->Q v H'->CE outer P w H s Q u s':=
  λ{eX H' v u} J rv q=>⟨v,H',J.os,J.bare,J.base,J.cO,rv,q⟩
 cases fl with
 |ret u=>
  obtain ⟨v,eX,H',J,rv,q⟩:=hs;exact fin J rv q
 |next=>
  obtain ⟨eX,H',J,q⟩:=hs;exact fin (v:=V.fY) (u:=Value.none) J rfl q
 |brk=>
  obtain ⟨_,_,_,q⟩:=hs;exact dj q
 |cont=>
  obtain ⟨_,_,_,q⟩:=hs;exact dj q
end L2
namespace L2
open PySem PySem.Spec PyProof.Rows
section
variable {X:Cx} {x:Str} {p pos:Pos} {e:adS} {es:List adS} {t:TA} {id T:String} {r:List V->Hp->VK->Prop}
def Ro (r:List V->Hp->VK->Prop) (t:TA):TE:=λσ H Q=>t σ H λvs H1=>r vs H1 Q
def d9 (hc:jZ X (.builtin id) r) (hg:Gl X x) (hm:X.mg x=none) (hv:aeD x=some (.builtin id)) (ha:PA X (e::es) t) (hn:x≠"__name__" :=by decide) (DO:(x==("__debug__" :Str))=false:=by decide)
  (he:adU (e::es) X.env=(false,eval e X.env)::adU es X.env:=by rfl) (hpl:(ad2 pos (adU es X.env)).any (·.1)=false:=by rfl):PE X (.Call (.Name x p) (e::es) [] pos) (Ro r t):=by
 intro pins s σ H Q I h;refine aez (mj I hg hm hv ?_ hn DO);exact WD (dJ (ha pos pins s σ H _ I h) λus s1 ⟨vs,H1,I1,r1,q1⟩=>hc pins s1 σ H1 vs us Q I1 r1 q1) he hpl
def xO (hc:jZ X (.type T) r) (hg:Gl X x) (hm:X.mg x=none) (hv:aeD x=some (.type T)) (ha:PA X (e::es) t) (hn:x≠"__name__" :=by decide) (DO:(x==("__debug__" :Str))=false:=by decide)
  (he:adU (e::es) X.env=(false,eval e X.env)::adU es X.env:=by rfl) (hpl:(ad2 pos (adU es X.env)).any (·.1)=false:=by rfl):PE X (.Call (.Name x p) (e::es) [] pos) (Ro r t):=by
 intro pins s σ H Q I h;refine aez (mj I hg hm hv ?_ hn DO);exact de (dJ (ha pos pins s σ H _ I h) λus s1 ⟨vs,H1,I1,r1,q1⟩=>hc pins s1 σ H1 vs us Q I1 r1 q1) he hpl
end
end L2
namespace HT
open PySem PyProof.Rows
def lexLt:List Int->List Int->Bool
 | [],[]=>false
 | [],_::_=>true
 |_::_,[]=>false
 |x::xs,y::ys=>if x=y then lexLt xs ys else decide (x<y)
def vo (x y:Int) (xs ys:List Int):lexLt (x::xs) (y::ys)=if x=y then lexLt xs ys else decide (x<y):=rfl
def w4:lexLt [] []=false:=rfl
def vm (y:Int) (ys:List Int):lexLt [] (y::ys)=true:=rfl
def vn (x:Int) (xs:List Int):lexLt (x::xs) []=false:=rfl
def K0 (A:adW) (s:adN) (a:Int) (t:Tok) (c:Int) (u:Tok): ∃e,SeqAt.EqAt A s (.int a t) (.int c u) e/\(e=true↔a=c):=
 ⟨(a==c),SeqAt.EqAt.int_int a t c u,by simp⟩
def Ji (A:adW) (s:adN) (a:Int) (t:Tok) (c:Int) (u:Tok) (prog:adT) (w:adQ) (E:Value->adN->Prop) (Q:Value->adN->Prop) (h:Q (.bool (decide (a<c))) s):
  wpAny (adR prog w) A (aeP .Lt (.int a t) (.int c u)) Q E s:=
 (WC h:wpAny (adR prog w) A (ad6 .Lt (.int a t) (.int c u)) Q E s)
section
open PySem.SeqAt
open PySem.AutoSeq1 (wpAny_loadPart')
open PySem.MeetsSeq PySem.MeetsSeq2 PySem.MeetsSeq3
def wQ (l b:Addr) (items kI:Array Value) (n n2:Nat) (dd OR:Option Addr) (sl Oh:Array (Option Value)) (ns ms:List Int) (hi:IntsAre items.toList ns) (hj:IntsAre kI.toList ms):
  Meets (ad9.«tuple.__lt__» ⟨[.ref l, .ref b],[]⟩)
   (λ_ R s=>s.heap.get? l=some {cls:= .type "tuple",dict:=dd,data:= .seq items n,slots:=sl}/\s.heap.get? b=some {cls:= .type "tuple",dict:=OR,data:= .seq kI n2,slots:=Oh}/\
    R (.ok (.ret (.bool (lexLt ns ms)))) s):=
 .of_wp λprog w A R s h=>by
  obtain ⟨hp,g,d,tk,os⟩:=s;obtain ⟨hl,hb,h⟩:=h;have f2:=AutoSeq1.sub_tuple_tuple;have z1:items.size=ns.length:=by rw [<-hi.length];simp
  have z2:kI.size=ms.length:=by rw [<-hj.length];simp
  wp_walk using wpAny_loadPart' hl,wpAny_loadPart' hb,wpAny_forIn_list _ (λrest b s'=>b.1=none/\s'=⟨hp,g,d,tk,os⟩/\∃(vs ws:List Value) (xQ Ry:List Int),rest=vs.zip ws/\
   IntsAre vs xQ/\IntsAre ws Ry/\xQ.length+kI.size=Ry.length+items.size/\R (.ok (.ret (.bool (lexLt xQ Ry)))) ⟨hp,g,d,tk,os⟩) _
  case turn=>
   rintro ⟨y,x⟩ rest b s' ⟨OG,rfl,vs,ws,xQ,Ry,hz,XY,Qh,hlen,hR⟩;cases XY with
   |nil=>rw [List.zip_nil_left] at hz;cases hz
   |cons a t XX=>
    cases Qh with
    |nil=>rw [List.zip_nil_right] at hz;cases hz
    |cons c u XU=>
     rw [rp] at hz;injection hz with hyx JV;injection hyx with hy hx;subst hy hx;rw [vo] at hR;simp only [aR] at hlen;obtain ⟨e,he,Up⟩:=K0 A.in1 ⟨hp,g,d,tk,os⟩ a t c u;refine adP (he prog w _ _ ?_);cases e with
     |true=>
      rw [if_pos (Up.mp rfl)] at hR
      wp_walk
      exact ⟨rfl,rfl,_,_,_,_,JV,XX,XU,by omega,hR⟩
     |false=>
      rw [if_neg (λq=>absurd (Up.mpr q) aJ)] at hR;have Cq:=Ji A.in1 ⟨hp,g,d,tk,os⟩ a t c u prog w
      wp_walk using Cq
      exact ⟨_,rfl,by simpa using hR⟩
  case fin=>
   rintro ⟨b1,b2⟩ s' ⟨OG,rfl,vs,ws,xQ,Ry,hz,XY,Qh,hlen,hR⟩;simp only at OG;subst OG;have hv:lexLt xQ Ry=decide (items.size<kI.size):=by
    cases XY with
    |nil=>
     cases Qh with
     |nil=>
      simp only [cU] at hlen;rw [w4];exact (decide_eq_false (by omega)).symm
     |cons c u hw=>
      simp only [cU,aR] at hlen;rw [vm];exact (decide_eq_true (by omega)).symm
    |cons a t hv=>
     cases Qh with
     |nil=>
      simp only [cU,aR] at hlen;rw [vn];exact (decide_eq_false (by omega)).symm
     |cons c u hw=>
      rw [rp] at hz;cases hz
   rw [hv] at hR
   wp_walk
   exact ⟨_,rfl,by simpa [Builtin.Tuple.tupleCompareSizes] using hR⟩
  case h=>
   exact ⟨rfl,rfl,items.toList,kI.toList,ns,ms,rfl,hi,hj,by omega,h⟩
end
section
variable {prog:adT} {w:adQ} {A:adW} {E:Value->adN->Prop} {s:adN}
def DA {l b:Addr} {items kI:Array Value} {ns ms:List Int} {Q:Value->adN->Prop} (hl:IsTup s.heap l items) (hb:IsTup s.heap b kI) (hi:IntsAre items.toList ns) (hj:IntsAre kI.toList ms)
  (hu:A.units<ad0) (h:Q (.bool (lexLt ns ms)) s):wpAny (adR prog w) A (ad6 .Lt (.ref l) (.ref b)) Q E s:=by
 obtain ⟨⟨cls,dd,data,sl⟩,ho,hc,n,hd⟩:=id hl;obtain ⟨⟨acW,OR,data2,Oh⟩,ZZ,Uv,n2,hd2⟩:=id hb;simp only at hc hd Uv hd2;subst hc hd Uv hd2;exact richCompare_meets_room (op:= .Lt) ⟨_,ho,rfl⟩ ⟨_,ZZ,rfl⟩ PySem.F.slot_tuple_lt PySem.F.entry_tuple_lt (PySem.F.args_tuple_lt_2 _ _) (wQ l b items kI n n2 dd OR sl Oh ns ms hi hj)
  ⟨ho,ZZ,show Value.bool (lexLt ns ms)≠Value.notImplemented/\Q (.bool (lexLt ns ms)) s from ⟨(λx=>nomatch x),h⟩⟩ hu
def yT (n d:Nat):Option Int->Nat
 |none=>d
 |some v=>if v<0 then (v+(n:Int)).toNat else min v.toNat n
end
end HT
namespace L2
open PySem PySem.Spec PyProof.Rows
abbrev TO:=St->Hp->(Option Int->Hp->Prop)->Prop
def PO (X:Cx) (e:Option adS) (t:TO):Prop:=
 ∀(pins:List (Addr×Obj)) (s:adN) (σ:St) (H:Hp) (Q:Option Int->Hp->Prop),Inv X pins σ H s->t σ H Q->
  wpAny (adR X.prog X.w) X.A (evalPart e X.env) (λu s'=> ∃o H',Inv X pins σ H' s'/\IsPart u o/\Q o H') X.xe s
def R8 (t:TE):TO:=λσ H Q=>t σ H λx H1=> ∃i,x= .int i/\Q (some i) H1
def intsAre_of {ns:List Int}: ∀{us:List Value},Vals (ns.map V.int) us->IntsAre us ns:=by
 induction ns with
 |nil=>intro us r;rw [gR] at r;cases r;exact .nil
 |cons n ns ih=>
  intro us r;rw [be] at r;cases r with
  |cons r1 r2=>
   obtain ⟨t,e⟩:=r1;subst e;exact .cons n t (ih r2)
section
variable {X:Cx} {e:adS} {te:TE} {lo hi:Option adS} {tl th:TO} {pos p2:Pos}
def iR (h:PE X e te):PO X (some e) (R8 te):=by
 intro pins s σ H Q I hw;rw [evalPart_some];refine dJ (h pins s σ H _ I hw) λu s1 ⟨x,H1,I1,r1,q1⟩=>?_;obtain ⟨i,rfl,q⟩:=q1;obtain ⟨t,rfl⟩:=r1;exact ⟨some i,H1,I1, .int i t,q⟩
def SlR (X:Cx) (r:V->Option Int->Option Int->Hp->VK->Prop):Prop:=
 ∀(pins:List (Addr×Obj)) (s:adN) (σ:St) (H:Hp) (x:V) (v vl vu:Value) (lo hi:Option Int) (sl:Addr) (Q:VK),Inv X pins σ H s->RelV x v->s.heap.IsSliceOf sl vl vu .none->IsPart vl lo->IsPart vu hi->r x lo hi H Q->
  ∃T id,typeLookup (.type T) "__getitem__" =pure (some (.builtin id))/\s.TypeIs v T/\wpAny (adR X.prog X.w) X.A (aeG v (.ref sl)) (EP X pins σ Q) X.xe s
def Zo (r:V->Option Int->Option Int->Hp->VK->Prop) (te:TE) (tl th:TO):TE:=λσ H Q=>te σ H λx H1=>tl σ H1 λl H2=>th σ H2 λu H3=>r x l u H3 Q
def qC {r:V->Option Int->Option Int->Hp->VK->Prop} (hr:SlR X r) (he:PE X e te) (hl:PO X lo tl) (hu:PO X hi th):PE X (.Subscript e (.Slice lo hi none p2) pos) (Zo r te tl th):=by
 intro pins s σ H Q I h;refine Subscript_ (dJ (he pins s σ H _ I h) λv s1 ⟨x,H1,I1,r1,q1⟩=>?_);refine wpAny_Slice (dJ (hl pins s1 σ H1 _ I1 q1) λvl s2 ⟨l,H2,I2,pl,q2⟩=>dJ (hu pins s2 σ H2 _ I2 q2) λvu s3 ⟨u,H3,I3,pu,q3⟩=>?_);rw [evalPart_none];refine adV ?_;have I4:Inv X pins σ H3 {s3 with heap:=s3.heap.push {cls:= .type "slice",data:= .fields #[vl,vu, .none]}}:=I3.kept (t':=s3.toks) λb ob q=>Heap.get?_push_of_some _ q;obtain ⟨T,id,hT,ht,hg⟩:=hr pins {s3 with heap:=s3.heap.push {cls:= .type "slice",data:= .fields #[vl,vu, .none]}} σ H3 x v vl vu l u s3.heap.objs.size Q I4 r1 (Heap.IsSliceOf.new ..) pl pu q3;show wpAny (adR X.prog X.w) X.A (subscriptTail e (.Slice lo hi none p2) v (.ref s3.heap.objs.size)) (EP X pins σ Q) X.xe {s3 with heap:=s3.heap.push {cls:= .type "slice",data:= .fields #[vl,vu, .none]}};exact tail_any (ops:= [.ref s3.heap.objs.size,v]) ht hT hg (by with_unfolding_all rfl)
def rX (xs:List V) (lo hi:Option Int):List V:=(xs.drop (HT.yT xs.length 0 lo)).take (HT.yT xs.length xs.length hi-HT.yT xs.length 0 lo)
def BP (xs:List V) (lo hi:Option Int):(rX xs lo hi).length<=xs.length:=by
 unfold rX;rw [bc,mT];omega
end
end L2
namespace L2
open PySem PySem.Spec PyProof.Rows
def HW (n:Nat) (i:Int):Option Nat:=if 0<=i then (if i<n then some i.toNat else none) else if-(n:Int)<=i then some (i+n).toNat else none
def FD {α:Type} (xs:List α) (i:Int):Option α:=(HW xs.length i).bind λj=>xs[j]?
def Ff {n:Nat} {i:Int} {j:Nat} (h:HW n i=some j):seqIndex? i n=some j/\j<n/\ -(n:Int)<=i/\i<n:=by
 unfold HW at h;by_cases h0:0<=i
 ·rw [if_pos h0] at h;by_cases h1:i<n
  ·rw [if_pos h1] at h;have e:i.toNat=j:=bx h;exact ⟨by rw [seqIndex_of h0 h1,e],by omega,by omega,h1⟩
  ·rw [if_neg h1] at h;cases h
 ·rw [if_neg h0] at h;by_cases h1: -(n:Int)<=i
  ·rw [if_pos h1] at h;have e:(i+n).toNat=j:=bx h;exact ⟨by rw [seqIndex_neg (by omega) h1,e],by omega,h1,by omega⟩
  ·rw [if_neg h1] at h;cases h
def FC {α:Type} {xs:List α} {i:Int} {v:α} (h:FD xs i=some v): ∃j,seqIndex? i xs.length=some j/\xs[j]?=some v/\j<xs.length/\ -(xs.length:Int)<=i/\i<xs.length:=by
 unfold FD at h;cases e:HW xs.length i with
 |none=>rw [e] at h;cases h
 |some j=>
  rw [e] at h;obtain ⟨h1,h2,h3,h4⟩:=Ff e;exact ⟨j,h1,h,h2,h3,h4⟩
def NZ {α:Type} {xs:List α} {j:Nat} {v:α} (h:xs[j]?=some v):FD xs (j:Int)=some v:=by
 have hj:j<xs.length:=(aK.mp h).1;have e:HW xs.length (j:Int)=some j:=by
  unfold HW;rw [if_pos (by omega),if_pos (by omega)];simp
 unfold FD;rw [e];exact h
def Le {α:Type} (xs:List α) (v:α):FD (xs++ [v]) (-1)=some v:=by
 have hl:(xs++ [v]).length=xs.length+1:=by simp
 have e:HW (xs++ [v]).length (-1)=some xs.length:=by
  unfold HW;rw [hl,if_neg (by decide),if_pos (by omega)]
  congr 1
  omega
 unfold FD;rw [e];show (xs++ [v])[xs.length]?=some v;simp
def zM (b:adS):Prop:= ∀o i,ae2 b false o i=operate [o,i] (aeG o i)
def Zh (X:Cx) (r:R2):Prop:=
 ∀(value slice:adS) (pins:List (Addr×Obj)) (s:adN) (σ:St) (H:Hp) (x y:V) (v u:Value) (Q:VK),Inv X pins σ H s->RelV x v->RelV y u->r x y H Q->
  ae2 slice false v u=operate [v,u] (aeG v u)->wpAny (adR X.prog X.w) X.A (subscriptTail value slice v u) (EP X pins σ Q) X.xe s
def MtR (X:Cx) (id:String) (r:V->List V->Hp->VK->Prop):Prop:=
 ∀(pins:List (Addr×Obj)) (s:adN) (σ:St) (H:Hp) (x:V) (xs:List V) (v:Value) (us:List Value) (Q:VK),Inv X pins σ H s->RelV x v->Vals xs us->r x xs H Q->
  wpAny (adR X.prog X.w) X.A (call (.builtin id) (v::us)) (EP X pins σ Q) X.xe s
section
variable {X:Cx} {a b:adS} {ta tb:TE} {pos:Pos}
def bi {r:R2} (hr:Zh X r) (ha:PE X a ta) (hb:PE X b tb) (hs:zM b):PE X (.Subscript a b pos) (O9 r ta tb):=by
 intro pins s σ H Q I h;exact Subscript_ (Q6 ha hb I h λv u s2 x y H2 I2 rx ry q=>hr a b pins s2 σ H2 x y v u Q I2 rx ry q (hs _ _))
def SR (K:aa):R2:=λx y H Q=> ∃p xs i v,x= .ref p/\y= .int i/\iF K H p xs/\FD xs i=some v/\Q v H
def SQ (K:aa):R2:=λx y H Q=> ∃p xs i v,x= .ref p/\y= .int i/\zK K H p xs/\FD xs i=some v/\Q v H
def aZ:Zh X (SR X.K):=by
 intro value slice pins s σ H x y v u Q I rx ry h hs;obtain ⟨p,xs,i,z,rfl,rfl,hq,he,q⟩:=h;cases rx;obtain ⟨t,rfl⟩:=ry;obtain ⟨its,r,pl,hz⟩:=I.list hq;obtain ⟨j,h1,h2,h3,h4,h5⟩:=FC he;obtain ⟨w,ew,uT⟩:=r.get h2;have hl:=r.length;have hn:=vk;have fin:EP X pins σ Q w s:=⟨z,H,I,uT,q⟩
 by_cases h0:0<=i
 ·have hj:i.toNat=j:=by
   rw [seqIndex_of h0 h5] at h1;exact bx h1
  exact item_listR pl.isList h0 (by omega) (by rw [hj];simpa using ew) fin hs
 ·have hj:(i+(its.toArray.size:Int)).toNat=j:=by
   rw [seqIndex_neg (by omega) h4] at h1;rw [bf, <-hl];exact bx h1
  exact subscriptTail_builtinR (x:=w) pl.isList.typeIs slot_list_getitem.lookup
   (wpAny_getItem_list_neg (Q:=λr s'=>r=w/\EP X pins σ Q r s') pl.isList (by omega) (by rw [bf] <;>omega) (by omega) (by rw [hj];simpa using ew) ⟨rfl,fin⟩) hs
def cK:Zh X (SQ X.K):=by
 intro value slice pins s σ H x y v u Q I rx ry h hs;obtain ⟨p,xs,i,z,rfl,rfl,hq,he,q⟩:=h;cases rx;obtain ⟨t,rfl⟩:=ry;obtain ⟨its,r,pl,hz⟩:=I.tuple hq;obtain ⟨j,h1,h2,h3,h4,h5⟩:=FC he;obtain ⟨w,ew,uT⟩:=r.get h2;have hl:=r.length;have hn:=vk;have fin:EP X pins σ Q w s:=⟨z,H,I,uT,q⟩
 exact subscriptTail_builtinR (x:=w) pl.typeIs slot_tuple_getitem.lookup
  (getItem_tuple (j:=j) (Q:=λr s'=>r=w/\EP X pins σ Q r s') pl (by omega) (by omega) (by rw [bf, <-hl];exact h1) (by simpa using ew) ⟨rfl,fin⟩) hs
def Dx (its:List Value) (n j:Nat) (u:Value):Obj.mapSeq (·.setIfInBounds j u) {cls:= .type "list",data:= .seq its.toArray n}={cls:= .type "list",data:= .seq (its.set j u).toArray n}:=by
 simp [Obj.mapSeq]
def Inv.lst {pins:List (Addr×Obj)} {σ:St} {H:Hp} {s:adN} {p:Addr} {xs:List V} (I:Inv X pins σ H s) (h:H p=some (.lst xs)):
  ∃(its:List Value) (n:Nat),Vals xs its/\s.heap.get? p=some {cls:= .type "list",data:= .seq its.toArray n}/\xs.length<=sizeLine:=by
 obtain ⟨z,its,n,r,e⟩:=I.cO p _ h;exact ⟨its,n,r,e,z⟩
def Inv.P1 {pins:List (Addr×Obj)} {σ:St} {H:Hp} {s:adN} {p:Addr} {xs ys:List V} {its its':List Value} {n n':Nat} {f:Obj->Obj} (I:Inv X pins σ H s) (h:H p=some (.lst xs))
  (ho:s.heap.get? p=some {cls:= .type "list",data:= .seq its.toArray n}) (hf:f {cls:= .type "list",data:= .seq its.toArray n}={cls:= .type "list",data:= .seq its'.toArray n'}) (r:Vals ys its') (hz:ys.length<=sizeLine) (t:Nat):
  Inv X pins σ (upd H p (.lst ys)) {s with heap:=s.heap.update p f,toks:=t}:=by
 have e:(s.heap.update p f).get? p=some {cls:= .type "list",data:= .seq its'.toArray n'}:=by
  rw [Heap.get?_update_self f ho (by rw [hf] <;>rfl),hf]
 refine I.write (x:=p) (e:=p) (by rw [h];trivial) (.inl rfl) (λb u hb q=>(Heap.get?_update_other _ _ (fz hb)).trans q) ⟨_,e⟩ ?_;exact ⟨hz,its',n',r,e⟩
def SO:V->V->V->Hp->(Hp->Prop)->Prop:=λo i v H Q=> ∃p xs k j,o= .ref p/\i= .int k/\H p=some (.lst xs)/\HW xs.length k=some j/\Q (upd H p (.lst (xs.set j v)))
def set_list:Vb X SO:=by
 intro pins s σ H o i v ov iv u Q I ro ri rv h;obtain ⟨p,xs,k,j,rfl,rfl,hp,hj,q⟩:=h;cases ro;obtain ⟨t,rfl⟩:=ri;obtain ⟨its,n,r,ho,hz⟩:=I.lst hp;obtain ⟨h1,h2,h3,h4⟩:=Ff hj;have hl:=r.length;have hn:=vk;have I':Inv X pins σ (upd H p (.lst (xs.set j v))) {s with heap:=s.heap.update p (Obj.mapSeq (·.setIfInBounds j u))}:=
  I.P1 hp ho (Dx its n j u) (r.set rv j) (by rw [wL];exact hz) s.toks
 by_cases h0:0<=k
 ·have hk:k.toNat=j:=by
   rw [seqIndex_of h0 h4] at h1;exact bx h1
  exact PySem.W.ki_setAt ho h0 (by omega) (by rw [bf, <-hl];exact h4) (by rw [hk];exact ⟨_,I',q⟩)
 ·have hk:(k+(its.toArray.size:Int)).toNat=j:=by
   rw [seqIndex_neg (by omega) h3] at h1;rw [bf, <-hl];exact bx h1
  exact PySem.W.ki_setBack ho (by omega) (by rw [bf, <-hl];exact h3) (by omega) (by rw [hk];exact ⟨_,I',q⟩)
def yM (lo hi:Option Int) (n:Nat):(aeA lo hi none n).1=((HT.yT n 0 lo:Nat):Int)/\(aeA lo hi none n).2.1=((HT.yT n n hi:Nat):Int)/\(aeA lo hi none n).2.2=1:=by
 refine ⟨?_,?_,rfl⟩
 ·cases lo with
  |none=>simp [aeA,HT.yT]
  |some i=>
   simp only [aeA,HT.yT,Ia,show (1:Int)>0 by decide,if_true];by_cases h:i<0
   ·simp only [h,if_true] <;>omega
   ·simp only [h,if_false] <;>omega
 ·cases hi with
  |none=>simp [aeA,HT.yT]
  |some i=>
   simp only [aeA,HT.yT,Ia,show (1:Int)>0 by decide,if_true];by_cases h:i<0
   ·simp only [h,if_true] <;>omega
   ·simp only [h,if_false] <;>omega
def wV (its:List Value) (lo hi:Option Int):slicePick its.toArray lo hi none=((its.drop (HT.yT its.length 0 lo)).take (HT.yT its.length its.length hi-HT.yT its.length 0 lo)).toArray:=by
 obtain ⟨h1,h2,h3⟩:=yM lo hi its.toArray.size;unfold slicePick;rw [h1,h2,h3];simp only [sliceRange_one,pick_run,bf] <;>rfl
def SN (K:aa):V->Option Int->Option Int->Hp->VK->Prop:=λx lo hi H Q=> ∃a xs,x= .ref a/\iF K H a xs/\∀p,H p=none->Q (.ref p) (upd H p (.lst (rX xs lo hi)))
def tV:SlR X (SN X.K):=by
 intro pins s σ H x v vl vu lo hi sl Q I rx hs pl pu h;obtain ⟨a,xs,rfl,hx,q⟩:=h;cases rx;obtain ⟨its,r,ht,hz⟩:=I.list hx;have hlen:=r.length;refine ⟨"list",_,slot_list_getitem.lookup,ht.isList.typeIs,?_⟩;refine wpAny_getItem_list_slice ht.isList hs pl pu .none (by simp) ?_ (by rw [bf] <;>omega);rw [wV, <-hlen];refine ⟨.ref s.heap.objs.size,_,I.laid (t':=s.toks) (o:= .lst (rX xs lo hi)) (λb ob q=>Heap.get?_push_of_some _ q) (ay _) ?_,rfl,q _ (I.cO.fresh (ay _))⟩;exact ⟨aV (BP xs lo hi) hz,_,0,(r.drop (HT.yT xs.length 0 lo)).take (HT.yT xs.length xs.length hi-HT.yT xs.length 0 lo),Heap.get?_push_size _ rfl⟩
def zE:jZ X (.builtin "len") (λxs H Q=> ∃p ys,xs= [.ref p]/\(iF X.K H p ys∨zK X.K H p ys)/\Q (.int ys.length) H):=by
 intro pins s σ H xs us Q I r h;obtain ⟨p,ys,rfl,hq,q⟩:=h;obtain ⟨u,rfl,rx⟩:=vals1 r;cases rx;have hn:=vk;rcases hq with hq|hq
 ·obtain ⟨its,r',pl,hz⟩:=I.list hq;have hlen:=r'.length;exact Calls.call_len_list pl.isList (by simp only [bf] <;>omega) ⟨.int ys.length,H,I.tok _,⟨s.toks+1,by rw [bf,hlen]⟩,q⟩
 ·obtain ⟨its,r',pl,hz⟩:=I.tuple hq;have hlen:=r'.length;exact len_tuple pl (by simp only [bf] <;>omega) ⟨.int ys.length,H,I.tok _,⟨s.toks+1,by rw [bf,hlen]⟩,q⟩
def zD:jZ X (.type "list") (λxs H Q=> ∃p ys,xs= [.ref p]/\(iF X.K H p ys∨zK X.K H p ys)/\∀l,H l=none->Q (.ref l) (upd H l (.lst ys))):=by
 intro pins s σ H xs us Q I r h;obtain ⟨p,ys,rfl,hq,q⟩:=h;obtain ⟨u,rfl,rx⟩:=vals1 r;cases rx;have fin: ∀(its:List Value),Vals ys its->ys.length<=sizeLine->∀(h':adO) (c':Nat),(∀b o',s.heap.get? b=some o'->h'.get? b=some o')->
   h'.get? s.heap.objs.size=some {cls:= .type "list",dict:=none,data:= .seq its.toArray c',slots:= #[]}->EP X pins σ Q (.ref s.heap.objs.size) {s with heap:=h'}:=λits r' hz h' c' kp e=>
  ⟨.ref s.heap.objs.size,_,I.laid (t':=s.toks) kp (ay _) (show dZ X.prog X.w _ h' _ (.lst ys) from ⟨hz,its,c',r',e⟩),rfl,q _ (I.cO.fresh (ay _))⟩
 rcases hq with hq|hq
 ·obtain ⟨its,r',pl,hz⟩:=I.list hq;have hlen:=r'.length;obtain ⟨o,ho,hc,n,hd⟩:=pl.isList;exact call_list_seq p (.inl rfl) ho hc hd (λh' c' kp e=>fin its r' hz h' c' kp e) (by simp only [bf] <;>omega)
 ·obtain ⟨its,r',pl,hz⟩:=I.tuple hq;have hlen:=r'.length;obtain ⟨o,ho,hc,n,hd⟩:=pl;exact call_list_seq p (.inr rfl) ho hc hd (λh' c' kp e=>fin its r' hz h' c' kp e) (by simp only [bf] <;>omega)
def WK (K:aa) (T:String) (x:V) (H:Hp):Prop:=match x with
 | .str _=>T= "str"
 | .int _=>T= "int"
 | .ref p=>(T= "list"/\∃xs,iF K H p xs)∨(T= "tuple"/\∃o,K.lookup p=some o/\o.cls= .type "tuple"/\o.dict=none)∨
   (T= "dict"/\((∃kvs,H p=some (.dK kvs))∨∃kvs,H p=some (.dT kvs)))∨(T= "set"/\∃S n,H p=some (.set S n))
 |_=>False
def Ir {pins:List (Addr×Obj)} {σ:St} {H:Hp} {s:adN} {T:String} {x:V} {v:Value} (I:Inv X pins σ H s) (r:RelV x v) (ty:WK X.K T x H):
  s.TypeIs v T/\∀a,v= .ref a->∃ob,s.heap.get? a=some ob/\ob.dict=none:=by
 cases x with
 |str z=>
  obtain ⟨t,rfl⟩:=r;cases (show T= "str" from ty);exact ⟨typeIs_str s z t,λ_ e=>nomatch e⟩
 |int i=>
  obtain ⟨t,rfl⟩:=r;cases (show T= "int" from ty);exact ⟨aeQ s i t,λ_ e=>nomatch e⟩
 |ref p=>
  cases r;rcases ty with ⟨rfl,xs,hq⟩|⟨rfl,o,hk,hc,hd⟩|⟨rfl,hk⟩|⟨rfl,S,n,hk⟩
  ·obtain ⟨its,_,pl,_⟩:=I.list hq;refine ⟨pl.isList.typeIs,λa e=>?_⟩;cases e;obtain ⟨o,n,e,c,hd,_⟩:=pl;exact ⟨o,e,hd⟩
  ·refine ⟨⟨o,I.Fe p o hk,hc⟩,λa e=>?_⟩;cases e;exact ⟨o,I.Fe _ o hk,hd⟩
  ·have z: ∃o,s.heap.get? p=some o/\o.ExactDict:=by
    rcases hk with ⟨kvs,hk⟩|⟨kvs,hk⟩
    ·obtain ⟨_,_,_,_,o,_,_,e,ex,_⟩:=I.cO p _ hk;exact ⟨o,e,ex⟩
    ·obtain ⟨_,_,_,_,o,_,_,e,ex,_⟩:=I.cO p _ hk;exact ⟨o,e,ex⟩
   obtain ⟨o,e,ex⟩:=z;refine ⟨⟨o,e,ex.1⟩,λa e2=>?_⟩;cases e2;exact ⟨o,e,ex.2.1⟩
  ·obtain ⟨o,_,_,_,e,ex,_⟩:=I.cO p _ hk;refine ⟨⟨o,e,ex.1⟩,λa e2=>?_⟩;cases e2;exact ⟨o,e,ex.2.1⟩
 |_=>exact dj ty
def WU (K:aa) (T:String) (r:V->List V->Hp->VK->Prop) (to:TE):TE:=λσ H Q=>to σ H λx H1=>WK K T x H1/\r x [] H1 Q
def WV (K:aa) (T:String) (r:V->List V->Hp->VK->Prop) (to:TE) (t:TA):TE:=λσ H Q=>to σ H λx H1=>WK K T x H1/\t σ H1 λxs H2=>r x xs H2 Q
variable {o e:adS} {es:List adS} {to:TE} {t:TA} {name:Str} {apos fi:Pos} {T id:String} {r:V->List V->Hp->VK->Prop}
def Pz (pa:PlainAttrs T) (slot:Slot T name id) (X1:typeOf (.builtin id)=pure (.type "method_descriptor")) (hm:MtR X id r) (ho:PE X o to)
  (hbase:aeg o name X.env (eval o X.env)=eval o X.env:=by rfl) (hline:(apos.endLine==fi.line)=true:=by rfl):PE X (.Call (.Attribute o name apos) [] [] fi) (WU X.K T r to):=by
 intro pins s σ H Q I h;refine wpAny_Call_method0_late hbase hline (dJ (ho pins s σ H _ I h) λv s1 ⟨x,H1,I1,r1,ty,q1⟩=>?_);obtain ⟨h1,h2⟩:=Ir I1 r1 ty;exact ⟨T,id,pa,slot,X1,h1,h2,Calls.callWith_builtin rfl (qd (hm pins s1 σ H1 x [] v [] Q I1 r1 .nil q1))⟩
def Oq (pa:PlainAttrs T) (slot:Slot T name id) (X1:typeOf (.builtin id)=pure (.type "method_descriptor")) (hm:MtR X id r) (ho:PE X o to) (ha:PA X (e::es) t)
  (hbase:aeg o name X.env (eval o X.env)=eval o X.env:=by rfl)
  (hfew:((ad2 fi (adU (e::es) X.env)).all (λx=>!x.1)&&(aeq fi (aer [] X.env)).all (λx=>x.1.isSome)
   &&decide ((e::es).length+([]:List aed).length+(if ([]:List aed).isEmpty then 0 else 1)<30))=true:=by rfl)
  (hline:(apos.endLine==fi.line)=true:=by rfl) (hs:adU (e::es) X.env=(false,eval e X.env)::adU es X.env:=by rfl) (hplain:(ad2 fi (adU es X.env)).any (·.1)=false:=by rfl):
  PE X (.Call (.Attribute o name apos) (e::es) [] fi) (WV X.K T r to t):=by
 intro pins s σ H Q I h;refine wpAny_Call_method_late hbase hfew hline rfl (dJ (ho pins s σ H _ I h) λv s1 ⟨x,H1,I1,r1,ty,q1⟩=>?_);obtain ⟨h1,h2⟩:=Ir I1 r1 ty;refine ⟨T,id,pa,slot,X1,h1,h2,?_⟩;have hA:=ha fi pins s1 σ H1 _ I1 q1;rw [hs] at hA⊢;refine Calls.callWith_builtin (by show (false||(ad2 fi (adU es X.env)).any (·.1))=false;rw [hplain] <;>rfl) (Calls.evalArgs_plain ?_);exact dJ hA λus s2 ⟨vs,H2,I2,r2,q2⟩=>hm pins s2 σ H2 x vs v us Q I2 r1 r2 q2
end
end L2
namespace L2
open PySem PySem.Spec PyProof.Rows
def Zf (X:Cx) (id:String) (r:V->List V->Hp->VK->Prop):Prop:=
 ∀(pins:List (Addr×Obj)) (s:adN) (σ:St) (H:Hp) (x:V) (xs:List V) (v:Value) (us:List Value) (Q:VK),Inv X pins σ H s->RelV x v->Vals xs us->r x xs H Q->
  wpAny (adR X.prog X.w) X.A (call (.builtin id) (v::us)) (EP X pins σ Q) X.xe s
def Vals.one: ∀{x:V} {us:List Value},Vals [x] us->∃u,us= [u]/\RelV x u
 |_,_, .cons r .nil=>⟨_,rfl,r⟩
def Vals.zero: ∀{us:List Value},Vals [] us->us= []
 |_, .nil=>rfl
def Vals.dropLast {xs:List V} {us:List Value} (h:Vals xs us):Vals xs.dropLast us.dropLast:=by
 induction h with
 |nil=>exact .nil
 |cons r t ih=>
  cases t with
  |nil=>exact .nil
  |cons q t'=>exact .cons r ih
def Vals.rep {xs:List V} {us:List Value} (h:Vals xs us): ∀k:Nat,Vals (cS k xs).flatten (cS k us).flatten
 |0=> .nil
 |k+1=>by
  rw [hU,hU,lO,lO];exact Vals.append h (Vals.rep h k)
def DY {α:Type} (l:List α):l.eraseIdx (l.length-1)=l.dropLast:=by
 induction l with
 |nil=>rfl
 |cons a r ih=>
  cases r with
  |nil=>rfl
  |cons b r=>
   have e:(a::b::r).length-1=((b::r).length-1)+1:=by
    have h1:(a::b::r).length=r.length+2:=rfl;have h2:(b::r).length=r.length+1:=rfl;omega
   rw [e,Cn,ih]
   all_goals rfl
def foldl_rep (its:List Value): ∀(k:Nat) (acc:List Value),
  Ic (λx1 x2=>x1++x2) acc.toArray (cS k its.toArray)=(acc++(cS k its).flatten).toArray
 |0,acc=>by simp
 |k+1,acc=>by
  have e:acc.toArray++its.toArray=(acc++its).toArray:=by simp
  have e2:(acc++its)++(cS k its).flatten=acc++(cS (k+1) its).flatten:=by
   rw [hU,lO,cq]
  rw [<-e2, <-foldl_rep its k (acc++its), <-e,hU,ox]
section
variable {X:Cx} {pins:List (Addr×Obj)} {σ:St} {H:Hp} {s:adN} {l b:Addr} {xs ys zs:List V}
def Inv.P2 {its its':List Value} {n:Nat} {f:Array Value->Array Value} {t':Nat} (I:Inv X pins σ H s) (hH:H l=some (.lst xs))
  (e:s.heap.get? l=some {cls:= .type "list",data:= .seq its.toArray n}) (hf:f its.toArray=its'.toArray) (hv:Vals ys its') (hz:ys.length<=sizeLine):
  Inv X pins σ (upd H l (.lst ys)) {s with heap:=s.heap.update l (Obj.mapSeq f),toks:=t'}:=by
 have q:=PySem.IsL.update e f;rw [hf] at q;refine I.write (x:=l) (e:=l) (by rw [hH];exact trivial) (.inl rfl) (λb' u hb hu=>(Heap.get?_update_other s.heap (Obj.mapSeq f) (fz hb)).trans hu) ⟨_,q⟩ ?_;exact ⟨hz,its',_,hv,q⟩
def Inv.Ti {its:List Value} {t':Nat} (I:Inv X pins σ H s) (hv:Vals ys its) (hz:ys.length<=sizeLine):
  Inv X pins σ (upd H s.heap.objs.size (.lst ys)) {s with heap:=s.heap.push {cls:= .type "list",data:= .seq its.toArray},toks:=t'}:=
 I.laid (λ_ _ q=>Heap.get?_push_of_some _ q) (ay _) ⟨hz,its,0,hv,Heap.get?_push_size _ rfl⟩
def Inv.fresh (I:Inv X pins σ H s):H s.heap.objs.size=none:=I.cO.fresh (ay _)
def Inv.DC (I:Inv X pins σ H s) (hH:H l=some (.lst xs)):xs.length<=sizeLine/\∃(its:List Value) (n:Nat),Vals xs its/\xs.length=its.length/\s.heap.get? l=some {cls:= .type "list",data:= .seq its.toArray n}:=by
 obtain ⟨z,its,n,r,e⟩:=I.cO l _ hH;exact ⟨z,its,n,r,r.length,e⟩
def A8 {n:Nat} (h:n<=sizeLine):Builtin.List.listTooLong n=false:=by
 unfold Builtin.List.listTooLong;exact decide_eq_false (by omega)
end
section
variable {X:Cx}
def EQ:V->List V->Hp->VK->Prop:=λx vs H Q=> ∃l xs y,x= .ref l/\vs= [y]/\H l=some (.lst xs)/\xs.length<sizeLine/\Q .fY (upd H l (.lst (xs++ [y])))
def GF:Zf X "list.append" EQ:=by
 intro pins s σ H x vs v us Q I rx rv h;obtain ⟨l,xs,y,rfl,rfl,hH,hz,q⟩:=h;cases rx;obtain ⟨u,rfl,ru⟩:=rv.one;obtain ⟨z,its,n,r,hl,e⟩:=I.DC hH;refine aeR F.slot_list_append ⟨_,e,rfl⟩ F.entry_list_append (F.args_list_append_2 _ _) (PySem.list_append l its.toArray n u (by rw [bf];omega)) ⟨e,?_⟩;refine ⟨.fY,_,I.P2 (its':=its++ [u]) hH e (by simp) (r.append (.cons ru .nil)) ?_,rfl,q⟩;rw [aL,gu];omega
def EO:V->List V->Hp->VK->Prop:=λx vs H Q=> ∃l b xs zs,x= .ref l/\vs= [.ref b]/\H l=some (.lst xs)/\H b=some (.lst zs)/\xs.length+zs.length<=sizeLine/\Q .fY (upd H l (.lst (xs++zs)))
def GE:Zf X "list.extend" EO:=by
 intro pins s σ H x vs v us Q I rx rv h;obtain ⟨l,b,xs,zs,rfl,rfl,hH,hB,hz,q⟩:=h;cases rx;obtain ⟨u,rfl,ru⟩:=rv.one;cases ru;obtain ⟨z,its,n,r,hl,e⟩:=I.DC hH;obtain ⟨z2,vz,n2,r2,Ct,e2⟩:=I.DC hB;have hsz:its.toArray.size+vz.toArray.size<=sizeLine:=by rw [bf,bf];omega
 have JY: ¬(!its.toArray.isEmpty&&Builtin.List.listTooLong (its.toArray.size+vz.toArray.size))=true:=by
  rw [A8 hsz,fK];exact aJ
 refine aeR F.slot_list_extend ⟨_,e,rfl⟩ F.entry_list_extend (F.args_list_extend_2 _ _)
  (AutoSeq1.list_extend_list_list_0 l its.toArray n b vz.toArray n2 JY (by rw [bf];omega) (by omega)) ⟨e,e2,?_⟩
 refine ⟨.fY,_,I.P2 (its':=its++vz) hH e (by simp) (r.append r2) ?_,rfl,q⟩;rw [aL];omega
def Xj:V->List V->Hp->VK->Prop:=λx vs H Q=> ∃l xs y,x= .ref l/\vs= []/\H l=some (.lst xs)/\xs[xs.length-1]?=some y/\Q y (upd H l (.lst xs.dropLast))
def PR:Zf X "list.pop" Xj:=by
 intro pins s σ H x vs v us Q I rx rv h;obtain ⟨l,xs,y,rfl,rfl,hH,hy,q⟩:=h;cases rx;have Cp:=rv.zero;subst Cp;obtain ⟨z,its,n,r,hl,e⟩:=I.DC hH;obtain ⟨u,hu,ru⟩:=r.get hy;have JQ:its.toArray[its.toArray.size-1]?=some u:=by
  show its.toArray[its.length-1]?=some u;rw [<-gr, <-hl];exact hu
 refine aeR F.slot_list_pop ⟨_,e,rfl⟩ F.entry_list_pop (F.args_list_pop_1 _) (MeetsSeq.list_pop_last l its.toArray n u JQ (by rw [bf];omega)) ⟨e,?_⟩;refine ⟨y,_,I.P2 (its':=its.dropLast) hH e ?_ r.dropLast ?_,ru,q⟩
 ·show its.toArray.eraseIdxIfInBounds (its.toArray.size-1)=its.dropLast.toArray;rw [bf,List.eraseIdxIfInBounds_toArray,DY]
 ·rw [List.length_dropLast];omega
def Xk:R2:=λx y H Q=> ∃l b xs zs,x= .ref l/\y= .ref b/\H l=some (.lst xs)/\H b=some (.lst zs)/\xs.length+zs.length<=sizeLine/\∀p,H p=none->Q (.ref p) (upd H p (.lst (xs++zs)))
def pP:sK X (aec .Add) Xk:=by
 intro pins s σ H x y v u Q I rx ry h;obtain ⟨l,b,xs,zs,rfl,rfl,hH,hB,hz,q⟩:=h;cases rx;cases ry;obtain ⟨z,its,n,r,hl,e⟩:=I.DC hH;obtain ⟨z2,vz,n2,r2,Ct,e2⟩:=I.DC hB;refine PySem.P.add_list e e2 ?_ (by rw [bf,bf];omega);have ea:its.toArray++vz.toArray=(its++vz).toArray:=by simp
 rw [ea];exact ⟨.ref _,_,I.Ti (t':=s.toks) (r.append r2) (by rw [aL];omega),rfl,q _ I.fresh⟩
def Xi:R2:=λx y H Q=> ∃l k xs,x= .ref l/\y= .int k/\H l=some (.lst xs)/\ -(2^63)<=k/\k<2^63/\xs.length*k.toNat<=sizeLine/\
 ∀p,H p=none->Q (.ref p) (upd H p (.lst (cS k.toNat xs).flatten))
def len_rep {α:Type} (xs:List α) (k:Nat):(cS k xs).flatten.length=k*xs.length:=by
 induction k with
 |zero=>simp
 |succ k ih=>rw [hU,lO,aL,ih,tL,Nat.add_comm]
def PH:sK X (aec .Mult) Xi:=by
 intro pins s σ H x y v u Q I rx ry h;obtain ⟨l,k,xs,rfl,rfl,hH,h1,h2,hz,q⟩:=h;cases rx;obtain ⟨t,rfl⟩:=ry;obtain ⟨z,its,n,r,hl,e⟩:=I.DC hH;have hlen:its.toArray.size*k.toNat<=sizeLine:=by rw [bf, <-hl];exact hz
 have YE: ¬its.toArray.size*k.toNat>(2^63-1)/8:=by
  have:(sizeLine:Nat)<=(2^63-1)/8:=by decide
  omega
 have Us: ¬(!Builtin.List.listFitsIndex k)=true:=by
  rw [fitsIndex_both h1 h2];exact aJ
 have JY: ¬Builtin.List.listTooLong (its.toArray.size*k.toNat)=true:=by
  rw [A8 hlen];exact aJ
 have Yg:Ic (λx1 x2=>x1++x2) #[] (cS (if its.toArray.isEmpty=true then 0 else k.toNat) its.toArray)=(cS k.toNat its).flatten.toArray:=by
  have f0: ∀m:Nat,Ic (λx1 x2=>x1++x2) #[] (cS m its.toArray)=(cS m its).flatten.toArray:=λm=>by
   have:=foldl_rep its m [];rw [wK] at this;exact this
  rw [f0];cases its with
  |nil=>simp
  |cons a r'=>rw [if_neg (by simp)]
 refine wpAny_binaryOp_repeat_ref (T:= "list") (U:= "int") (by decide) ⟨_,e,rfl⟩ (λs'=>aeQ s' k t) noFill_list_mul F.fills_int_mul F.slot_int_rmul repeat_list F.slot_int_index.lookup
  (aeR F.slot_int_rmul (aeQ s k t) F.entry_int_rmul (F.args_int_rmul_2 _ _) (int___rmul___int_list k t l its.toArray n)
   ⟨e,rfl,⟨_,e,rfl⟩,aeR F.slot_list_mul ⟨_,e,rfl⟩ F.entry_list_mul (F.args_list_mul_2 _ _) (AutoListH.list___mul___list_int_3 l its.toArray n k t Us YE JY) ⟨e,?_⟩⟩)
 rw [Yg];exact ⟨.ref _,_,I.Ti (t':=s.toks) (r.rep k.toNat) (by rw [len_rep,Nat.mul_comm];exact hz),rfl,q _ I.fresh⟩
end
end L2
namespace L2
open PySem PySem.Spec PyProof.Rows
def Vals.ints: ∀{ns:List Int} {us:List Value},Vals (ns.map V.int) us->IntsAre us ns
 | [],us,h=>by
  rw [gR] at h;cases h;exact IntsAre.nil
 |n::ns,us,h=>by
  rw [be] at h;cases h with
  |cons r t=>
   obtain ⟨k,rfl⟩:=r;exact IntsAre.cons n k (Vals.ints t)
def qm: ∀{us:List Value} {ns:List Int},IntsAre us ns->Vals (ns.map V.int) us
 |_,_, .nil=>by rw [gR];exact Paired.nil
 |_,_, .cons n t h=>by rw [be];exact Paired.cons (show RelV (V.int n) (Value.int n t) from ⟨t,rfl⟩) (qm h)
def Vals.bls: ∀{bs:List Bool} {us:List Value},Vals (bs.map V.bl) us->us=bs.map Value.bool
 | [],us,h=>by
  rw [gR] at h;cases h;rfl
 |b::bs,us,h=>by
  rw [be] at h;cases h with
  |cons r t=>
   cases r;rw [Vals.bls t,be]
def Vals.yZ {a:Addr} {us:List Value} (r:Vals [V.ref a] us):us= [Value.ref a]:=by
 cases r with
 |cons r t=>
  cases t;cases r;rfl
section
variable {prog:adT} {w:adQ} {A:adW} {E:Value->adN->Prop} {s:adN} {l:Addr} {its:List Value} {ns:List Int} {Q:Value->adN->Prop}
def Mm (hh:A.handled=none) (hl:s.heap.IsList l its.toArray) (hi:IntsAre its ns)
  (h: ∀h' tk t',(∀b o,s.heap.get? b=some o->h'.get? b=some o)->Q (.int ns.sum t') {s with heap:=h',toks:=tk}):wpAny (adR prog w) A (call (.builtin "sum") [.ref l]) Q E s:=by
 obtain ⟨xs,e⟩:=hi.allInts.items;have hn:numsOf (intItems xs).toList=ns:=by rw [<-e];exact hi.numsOf
 rw [nums_intItems] at hn;rw [e] at hl;refine PySem.sum_intListG hh hl λh' tk t' hk=>?_;have:=h h' tk t' hk;rw [preSum_eq,cp (by simp),hn];exact this
end
section
variable {X:Cx}
def Xh (K:aa):List V->Hp->VK->Prop:=λvs H Q=> ∃(a:Addr) (ns:List Int),vs= [V.ref a]/\iF K H a (ns.map V.int)/\Q (.int ns.sum) H
def zA (hc:X.calm=true):jZ X (.builtin "sum") (Xh X.K):=by
 intro pins s σ H vs us Q I r h;obtain ⟨a,ns,rfl,hs,q⟩:=h;obtain ⟨its,rv,hl,_⟩:=I.list hs;rw [Vals.yZ r];exact Mm (I.ok.hd hc) hl.isList rv.ints λh' tk t' hk=>⟨.int _,H,I.kept hk,⟨_,rfl⟩,q⟩
def Mp {n:Nat} (h:n<64):n<=sizeLine:=by rw [adY];omega
end
def JO {prog:adT} {w:adQ} {A:adW} {E:Value->adN->Prop} {s:adN} {l:Addr} {items:Array Value} {Q:Value->adN->Prop} (hl:s.heap.IsList l items)
  (h: ∀kF:adN,kF={s with heap:=s.heap.push {cls:= .type "list_iterator",data:= .fields #[.ref l, .int 0 0]}}->
   (kF.heap.IsListIter s.heap.objs.size l 0/\kF.heap.IsList l items)->l≠s.heap.objs.size->Q (.ref s.heap.objs.size) kF):wpAny (adR prog w) A (pyIter (.ref l)) Q E s:=by
 have jd:l<s.heap.objs.size:=by obtain ⟨_,e,_⟩:=hl;exact Heap.lt_size e
 exact aex hl (h _ rfl ⟨⟨_,Heap.get?_push_size _ rfl,rfl,rfl⟩,hl.push _⟩ (bH jd))
def Af {prog:adT} {w:adQ} {A:adW} {bs:List Bool} {its:List Value} (e:its=bs.map Value.bool):
  TruthOf prog w A (λi v=>its.toArray[i]?=some v) (λi=>bs.getD i false):=λi v s Q E hv hq=>by
 have RA:its[i]?=some v:=by simpa using hv
 rw [e,br] at RA;obtain ⟨b,hb,rfl⟩:=z9.mp RA;have hg:bs.getD i false=b:=by rw [bj,hb] <;>rfl
 have OC:Q (bs.getD i false) s:=hq;rw [hg] at OC;exact aen OC
def all_range: ∀bs:List Bool,(bb bs.length).all (λi=>bs.getD i false)=bs.all id
 | []=>rfl
 |b::bs=>by
  rw [aR,List.range_succ_eq_map,gq,ng,gq, <-all_range bs]
  all_goals rfl
section
variable {X:Cx}
def Xl (K:aa):List V->Hp->VK->Prop:=λvs H Q=> ∃(a:Addr) (bs:List Bool),vs= [V.ref a]/\iF K H a (bs.map V.bl)/\Q (.bl (bs.all id)) H
def Lb (hc:X.calm=true):jZ X (.builtin "all") (Xl X.K):=by
 intro pins s σ H vs us Q I r h;obtain ⟨a,bs,rfl,hs,q⟩:=h;obtain ⟨its,rv,hl,_⟩:=I.list hs;rw [Vals.yZ r];have hb:=rv.bls;refine call_all_walk (JO hl.isList λkF e2 st gp=>?_);subst e2;refine ⟨_,_,_,_,_,_,_,rfl,Walks.list (A:=X.A.in1) (I.ok.hd hc) _ a gp its.toArray,st,Af hb,λh' tk hk=>?_⟩;refine ⟨.bl _,H,I.kept λb o eo=>hk b o (λQo=>?_) (Heap.get?_push_of_some _ eo),?_,q⟩
 ·rcases aD.mp Qo with e1|Qo
  ·exact absurd (e1▸Heap.lt_size eo) (dW _)
  ·cases Qo
 ·show Value.bool _=Value.bool _;rw [<-all_range,hb,bf,ab]
end
mutual
inductive Dp (K:aa) (H:Hp):V->aek->Prop
 |fY:Dp K H .fY .none
 |bl (b:Bool):Dp K H (.bl b) (.bool b)
 |int (i:Int):Dp K H (.int i) (.int i)
 |str (x:Str):Dp K H (.str x) (.str x)
 |lst {a:Addr} {xs:List V} {ds:List aek}:iF K H a xs->wq K H xs ds->Dp K H (.ref a) (.list ds)
 |tup {a:Addr} {xs:List V} {ds:List aek}:zK K H a xs->wq K H xs ds->Dp K H (.ref a) (.tuple ds)
inductive wq (K:aa) (H:Hp):List V->List aek->Prop
 |nil:wq K H [] []
 |cons {v:V} {vs:List V} {d:aek} {ds:List aek}:Dp K H v d->wq K H vs ds->wq K H (v::vs) (d::ds)
end
section
variable {X:Cx} {pins:List (Addr×Obj)} {σ:St} {H:Hp} {s:adN}
mutual
def Dp.reads (I:Inv X pins σ H s): ∀(d:aek) (v:V) (u:Value),Dp X.K H v d->RelV v u->∃as,Reads s.heap u d as
 | .none,_,_,h,r=>by
  cases h;cases r;exact ⟨_,Reads.none⟩
 | .bool b,_,_,h,r=>by
  cases h;cases r;exact ⟨_,Reads.bool b⟩
 | .int i,_,_,h,r=>by
  cases h;obtain ⟨t,rfl⟩:=r;exact ⟨_,Reads.int i t⟩
 | .str x,_,_,h,r=>by
  cases h;obtain ⟨t,rfl⟩:=r;exact ⟨_,Reads.str x t⟩
 | .list ds,_,_,h,r=>by
  cases h with
  |lst hs ha=>
   cases r;obtain ⟨its,rv,⟨o,n,ho,hc,_,hd⟩,_⟩:=I.list hs;obtain ⟨as,hr⟩:=Dp.readsAll I ds _ its ha rv;exact ⟨_,Reads.list ho hc hd hr⟩
 | .tuple ds,_,_,h,r=>by
  cases h with
  |tup hs ha=>
   cases r;obtain ⟨its,rv,⟨o,ho,hc,n,hd⟩,_⟩:=I.tuple hs;obtain ⟨as,hr⟩:=Dp.readsAll I ds _ its ha rv;exact ⟨_,Reads.tuple ho hc hd hr⟩
 | .dict _,_,_,h,_=>by cases h
def Dp.readsAll (I:Inv X pins σ H s): ∀(ds:List aek) (vs:List V) (us:List Value),wq X.K H vs ds->Vals vs us->∃as,ReadsAll s.heap us ds as
 | [],_,_,h,r=>by
  cases h;cases r;exact ⟨_,ReadsAll.nil⟩
 |d::ds,_,_,h,r=>by
  cases h with
  |cons h1 h2=>
   cases r with
   |cons r1 r2=>
    obtain ⟨as,q1⟩:=Dp.reads I d _ _ h1 r1;obtain ⟨bs,q2⟩:=Dp.readsAll I ds _ _ h2 r2;exact ⟨_,ReadsAll.cons q1 q2⟩
end
end
section
variable {X:Cx}
def SS (K:aa):R2:=λx y H Q=> ∃d e,Dp K H x d/\Dp K H y e/\SeqAt.shaped d=true/\SeqAt.shaped e=true/\Q (.bl (PyData.eqv d e)) H
def PJ (hu:X.A.units+64<ad0):sK X (ad6 .Eq) (SS X.K):=by
 intro pins s σ H x y v u Q I rx ry h;obtain ⟨d,e,hd,he,sd,se,q⟩:=h;obtain ⟨as,r1⟩:=Dp.reads I d x v hd rx;obtain ⟨bs,r2⟩:=Dp.reads I e y u he ry;exact SeqAt.compareEq_shaped r1 r2 sd se hu ⟨.bl _,H,I,rfl,q⟩
end
end L2
namespace L2
open PySem PySem.Spec PyProof.Rows
abbrev Ll (h:adO) (c:Addr) (v:Option Value):Prop:=h.IsCell c v
def Xg (scope sc:ad1):ad1:=
 {scope with names:=scope.names.map λ(n,k)=>if (k== .free&&sc.kind== .function&&sc.names.lookup n==some .cell) then (n, .cell) else (n,k)}
def dN (cells:List (Str×Addr)):List (Str×ad8)->List (Str×Addr)->List (Str×Addr)
 | [],acc=>acc
 |(n,k)::r,acc=>if k== .free then dN cells r ((n,(cells.lookup n).getD 0)::acc) else dN cells r acc
def qN (env:Env) (f:Str×ad8->List (Str×Addr)->Sem (ForInStep (List (Str×Addr))))
  (hf: ∀n k c,f (n,k) c=if k== .free then (do let a<-cellOf env n;pure (.yield ((n,a)::c))) else pure (.yield c)):
  ∀(names:List (Str×ad8)) (acc:List (Str×Addr)),(∀y∈names,y.2= .free->∃c,env.cells.lookup y.1=some c)->forIn names acc f=pure (dN env.cells names acc)
 | [],acc,_=>by rw [O1];rfl
 |(n,k)::r,acc,h=>by
  rw [List.forIn_cons,hf];have ih:=λacc=>qN env f hf r acc λy hy=>h y (aF _ hy);unfold dN;by_cases hk:(k==NameKind.free)=true
  ·rw [if_pos hk,if_pos hk];obtain ⟨c,hc⟩:=h (n,k) aM (by simpa using hk);have e:cellOf env n=pure c:=by unfold cellOf;rw [hc]
   rw [e];have e2:(env.cells.lookup n).getD 0=c:=by rw [hc];rfl
   rw [e2];exact ih _
  ·rw [if_neg hk,if_neg hk];exact ih _
def D6 {scope:ad1} {env:Env} (h: ∀y∈scope.names,y.2= .free->∃c,env.cells.lookup y.1=some c):closureFor scope env=pure (dN env.cells scope.names []):=by
 simp only [closureFor];rw [qN env _ (λn k c=>rfl) scope.names [] h];rfl
def mem_lookup {α:Type}: ∀{l:List (Str×α)} {n:Str} {c:α},(n,c)∈l->∃c',l.lookup n=some c'
 |(k,v)::r,n,c,h=>by
  rw [fJ];cases hb:n==k with
  |true=>exact ⟨_,rfl⟩
  |false=>
   rcases aD.mp h with e|h
   ·cases e;simp at hb
   ·exact mem_lookup h
def kq {cells:List (Str×Addr)}: ∀{names:List (Str×ad8)} {acc:List (Str×Addr)} {n:Str} {c:Addr},(n,c)∈dN cells names acc->(n,c)∈acc∨((n, .free)∈names/\c=(cells.lookup n).getD 0)
 | [],_,_,_,h=> .inl h
 |(m,k)::r,acc,n,c,h=>by
  unfold dN at h;split at h
  ·rename_i hk
   have hk:k= .free:=by simpa using hk
   rcases kq h with h|⟨h1,h2⟩
   ·rcases aD.mp h with e|h
    ·cases e;exact .inr ⟨hk▸aM,rfl⟩
    ·exact .inl h
   ·exact .inr ⟨aF _ h1,h2⟩
  ·rcases kq h with h|⟨h1,h2⟩
   ·exact .inl h
   ·exact .inr ⟨aF _ h1,h2⟩
def nR {cells:List (Str×Addr)}: ∀{names:List (Str×ad8)} {acc:List (Str×Addr)} {p:Str×Addr},p∈acc->p∈dN cells names acc
 | [],_,_,h=>h
 |(m,k)::r,acc,p,h=>by
  unfold dN;split
  ·exact nR (aF _ h)
  ·exact nR h
def nQ {cells:List (Str×Addr)}: ∀{names:List (Str×ad8)} {acc:List (Str×Addr)} {n:Str},(n, .free)∈names->(n,(cells.lookup n).getD 0)∈dN cells names acc
 |(m,k)::r,acc,n,h=>by
  unfold dN;rcases aD.mp h with e|h
  ·cases e;exact nR aM
  ·split
   ·exact nQ h
   ·exact nQ h
def lC: ∀{names:List (Str×ad8)} {h:adO} {acc:List (Str×Addr)} {x:Str} {c:Addr},(x,c)∈ad3 h.objs.size names acc->
  (x,c)∈acc∨((x, .cell)∈names/\h.objs.size<=c/\Ll (aes h names) c none)
 | [],_,_,_,_,h=> .inl h
 |(n,k)::r,h,acc,x,c,hm=>by
  unfold ad3 at hm;unfold aes;split at hm
  ·rename_i hk
   rw [if_pos hk];have hk:k= .cell:=by simpa using hk
   rw [<-Heap.size_push h {cls:= .type "cell",data:= .cell none}] at hm;rcases lC hm with hm|⟨h1,h2,h3⟩
   ·rcases aD.mp hm with e|hm
    ·cases e;exact .inr ⟨hk▸aM,ay _,_,ae3 r _ _ _ (Heap.get?_push_size _ rfl),rfl⟩
    ·exact .inl hm
   ·rw [Heap.size_push] at h2;exact .inr ⟨aF _ h1,lU h2,h3⟩
  ·rename_i hk
   rw [if_neg hk];rcases lC hm with hm|⟨h1,h2,h3⟩
   ·exact .inl hm
   ·exact .inr ⟨aF _ h1,h2,h3⟩
def oT: ∀{names:List (Str×ad8)} {n:Nat} {acc:List (Str×Addr)} {p:Str×Addr},p∈acc->p∈ad3 n names acc
 | [],_,_,_,h=>h
 |(m,k)::r,n,acc,p,h=>by
  unfold ad3;split
  ·exact oT (aF _ h)
  ·exact oT h
def r6: ∀{names:List (Str×ad8)} {n:Nat} {acc:List (Str×Addr)} {x:Str},(x, .cell)∈names->∃c,(x,c)∈ad3 n names acc
 |(m,k)::r,n,acc,x,h=>by
  unfold ad3;rcases aD.mp h with e|h
  ·cases e;exact ⟨n,oT aM⟩
  ·split
   ·exact r6 h
   ·exact r6 h
def rZ: ∀{names:List (Str×ad8)} {h:adO} {acc:List (Str×Addr)} {x y:Str} {c:Addr},(∀p∈acc,p.2<h.objs.size)->(∀x y c,(x,c)∈acc->(y,c)∈acc->x=y)->
  (x,c)∈ad3 h.objs.size names acc->(y,c)∈ad3 h.objs.size names acc->x=y
 | [],_,_,_,_,_,_,hi,h1,h2=>hi _ _ _ h1 h2
 |(n,k)::r,h,acc,x,y,c,hl,hi,h1,h2=>by
  unfold ad3 at h1 h2;split at h1
  ·rename_i hk
   rw [if_pos hk] at h2;rw [<-Heap.size_push h {cls:= .type "cell",data:= .cell none}] at h1 h2;refine rZ (h:=h.push _) (λp hp=>?_) (λx y c a b=>?_) h1 h2
   ·rw [Heap.size_push];rcases aD.mp hp with rfl|hp
    ·exact fP _
    ·exact lS (hl p hp)
   ·rcases aD.mp a with e|a<;>rcases aD.mp b with e'|b
    ·cases e;cases e';rfl
    ·cases e;exact absurd (hl _ b) (dW _)
    ·cases e';exact absurd (hl _ a) (dW _)
    ·exact hi _ _ _ a b
  ·rename_i hk
   rw [if_neg hk] at h2;exact rZ hl hi h1 h2
def Bb {M:Model} {A:adW} {E:Value->adN->Prop} {s:adN} {scope:ad1} {globals:Addr} {closure:List (Str×Addr)} {qual:Str} {func:Option Addr} {code:Value} {around:Env} {builtins:Addr} {Q:Env->adN->Prop}
  (h:Q (newEnv scope s.heap.objs.size globals (ad3 (s.heap.objs.size+1) scope.names closure) qual func code (some around) builtins)
   {s with heap:=aes (s.heap.push {cls:= .type "dict",data:= .dict #[]}) scope.names}):
  wpAny M A (newFunctionEnv scope globals closure [] qual func code (some around) builtins) Q E s:=by
 simp only [newFunctionEnv,ic,if_true];refine adP (wpAny_alloc ?_);refine adP (wpAny_layCells _ (λn k c=>rfl) scope.names closure _ _ ?_);rw [show ({s with heap:=s.heap.push {cls:= .type "dict",data:= .dict #[]}}:adN).heap.objs.size=s.heap.objs.size+1 from Heap.size_push ..];rw [O1];exact adP (adV (adV h))
def nG {sc:ad1}: ∀{names:List (Str×ad8)} {x:Str} {k:ad8},
  (names.map λ(n,k)=>if (k==NameKind.free&&sc.kind== .function&&sc.names.lookup n==some .cell) then (n,NameKind.cell) else (n,k)).lookup x=some k->
  ∃k',names.lookup x=some k'/\(k=k'∨(k'= .free/\k= .cell))
 | [],_,_,h=>by simp at h
 |(n,JJ)::r,x,k,h=>by
  have ih:= @nG sc r x k;have h':fW x ((if (JJ==NameKind.free&&sc.kind== .function&&sc.names.lookup n==some .cell)=true then (n,NameKind.cell) else (n,JJ))::(r.map _))=some k:=h;cases hx:x==n with
  |true=>
   simp only [fJ,hx];by_cases hc:(JJ==NameKind.free&&sc.kind== .function&&sc.names.lookup n==some .cell)=true
   ·rw [if_pos hc] at h';simp only [fJ,hx] at h';cases h';simp only [aU,beq_iff_eq] at hc;exact ⟨JJ,rfl, .inr ⟨hc.1.1,rfl⟩⟩
   ·rw [if_neg hc] at h';simp only [fJ,hx] at h';cases h';exact ⟨_,rfl, .inl rfl⟩
  |false=>
   simp only [fJ,hx];by_cases hc:(JJ==NameKind.free&&sc.kind== .function&&sc.names.lookup n==some .cell)=true
   ·rw [if_pos hc] at h';simp only [fJ,hx] at h';exact ih h'
   ·rw [if_neg hc] at h';simp only [fJ,hx] at h';exact ih h'
structure Cd (N:List Str) (sc scope:ad1) (own:List (Str×Nat)):Prop where
 kind:scope.kind= .function
 uniq: ∀y∈scope.names,scope.names.lookup y.1=some y.2
 ix: ∀p∈own,N[p.2]?=some p.1
 free: ∀y∈scope.names,y.2= .free->sc.names.lookup y.1=some .cell∨sc.names.lookup y.1=some .free
 own: ∀y∈scope.names,y.2= .local∨y.2= .cell->y.1∈own.map (·.1)∨y.1∉N
def wipe (σ:St):List Nat->St
 | []=>σ
 |v::vs=>(wipe σ vs).set v none
def ni (σ:St): ∀vs:List Nat,(wipe σ vs).length=σ.length
 | []=>rfl
 |v::vs=>by unfold wipe;rw [wL,ni σ vs]
def rA {σ:St} {i:Nat} {x:V}: ∀{vs:List Nat},(wipe σ vs)[i]?=some (some x)->σ[i]?=some (some x)/\i∉vs
 | [],h=>⟨h,by simp⟩
 |v::vs,h=>by
  unfold wipe at h;by_cases hi:v=i
  ·subst hi;by_cases hv:v<(wipe σ vs).length
   ·rw [m9 hv] at h;cases h
   ·rw [Em (by simpa using hv)] at h;cases h
  ·rw [pq hi] at h;obtain ⟨h1,h2⟩:=rA h;exact ⟨h1,by simp only [aD,not_or];exact ⟨λe=>hi e.symm,h2⟩⟩
abbrev Cx.zG (X:Cx) (s:adN) (H:Hp) (scope:ad1) (ie:Env) (fp:List Addr):Cx:={X with xJ:=s,Re:=H,env:=ie,outer:=X.stack,ex:=fp,fn:=λx=>scope.names.lookup x==some .cell,pn:= [],xe:=λ_ _=>False}
section
variable {X:Cx} {pins:List (Addr×Obj)} {σ:St} {H:Hp} {s:adN}
def BS {scope:ad1} {own:List (Str×Nat)} {fp:List Addr} (I:Inv X pins σ H s) (ok:Cd X.N X.env.scope scope own) (hN:X.N.Nodup) (LK: ∀b∈fp,tG X pins H b/\b<s.heap.objs.size):
  Inv (X.zG s H scope (aea scope (ad3 (s.heap.objs.size+1) scope.names (dN X.env.cells scope.names [])) s.heap.objs.size X.env) fp) [] (wipe σ (own.map (·.2))) H {s with heap:=aes (s.heap.push {cls:= .type "dict",data:= .dict #[]}) scope.names}:=by
 have ya: ∀y∈scope.names,y.2= .free->∃c,X.env.cells.lookup y.1=some c:=λy hy e=>by
  rcases ok.free y hy e with k|k
  ·exact I.ok.has _ (.inl k)
  ·exact I.ok.has _ (.inr k)
 generalize BA:aea scope (ad3 (s.heap.objs.size+1) scope.names (dN X.env.cells scope.names [])) s.heap.objs.size X.env=ie;have kp: ∀b o,s.heap.get? b=some o->(aes (s.heap.push {cls:= .type "dict",data:= .dict #[]}) scope.names).get? b=some o:=λb o e=>ae3 _ _ _ _ (Heap.get?_push_of_some _ e);have hL:ie.locals=s.heap.objs.size:=by rw [<-BA];rfl
 have xc:ie.cells=ad3 (s.heap.objs.size+1) scope.names (dN X.env.cells scope.names []):=by rw [<-BA];rfl
 have X5:ie.scope=Xg scope X.env.scope:=by rw [<-BA];rfl
 rw [<-Heap.size_push s.heap {cls:= .type "dict",data:= .dict #[]}] at xc;have cm: ∀{y c},(y,c)∈dN X.env.cells scope.names []->X.env.cells.lookup y=some c/\c<s.heap.objs.size:=λ{y c} hm=>by
  rcases kq hm with hm|⟨h1,rfl⟩
  ·cases hm
  ·obtain ⟨c,hc⟩:=ya _ h1 rfl;rw [hc];obtain ⟨w,z⟩:=I.cell _ _ hc;exact ⟨rfl,z.lt⟩
 have mem: ∀{y c},ie.cells.lookup y=some c->(X.env.cells.lookup y=some c/\c<s.heap.objs.size)∨(s.heap.objs.size+1<=c/\Ll (aes (s.heap.push {cls:= .type "dict",data:= .dict #[]}) scope.names) c none):=λ{y c} e=>by
  rw [xc] at e;rcases lC (bO e) with hm|⟨_,h2,h3⟩
  ·exact .inl (cm hm)
  ·rw [Heap.size_push] at h2;exact .inr ⟨h2,h3⟩
 have look: ∀{y},scope.names.lookup y=some .free->∃c,ie.cells.lookup y=some c/\X.env.cells.lookup y=some c:=λ{y} hl=>by
  have hy:(y,NameKind.free)∈scope.names:=bO hl;obtain ⟨c',e'⟩:=mem_lookup (oT (names:=scope.names) (n:=(s.heap.push {cls:= .type "dict",data:= .dict #[]}).objs.size) (nQ (cells:=X.env.cells) (acc:= []) hy));rw [<-xc] at e';refine ⟨c',e',?_⟩;rw [xc] at e';rcases lC (bO e') with hm|⟨h1,_,_⟩
  ·exact (cm hm).1
  ·have:=ok.uniq _ h1;rw [hl] at this;cases this
 have okB:(X.zG s H scope ie fp).Ok:=by
  refine ⟨I.ok.mod,by show ie.scope.kind=_;rw [X5];exact ok.kind,by show ie.globals=_;rw [<-BA];exact I.ok.glob,by show ie.builtins=_;rw [<-BA];exact I.ok.blt,by show s.heap.objs.size<=ie.locals;rw [hL];exact ay _,
   λy z c e1 e2=>?_,λy hy=>?_,λy c z e=>?_,I.ok.hd,I.ok.frames, .inl rfl,λb hb=>⟨?_,λy c e z=>?_⟩,I.bs,aV I.ok.NV I.sz,λb o e hb=>?_,λb hb z=>?_,I.stack,I.Es⟩
  ·have e1:ie.cells.lookup y=some c:=e1;have e2:ie.cells.lookup z=some c:=e2;rw [xc] at e1 e2;refine rZ (λp hp=>?_) (λy z c a b=>I.ok.inj y z c (cm a).1 (cm b).1) (bO e1) (bO e2);rw [Heap.size_push];exact lS (cm (y:=p.1) (c:=p.2) hp).2
  ·show∃c,ie.cells.lookup y=some c;have key: ∀k,ie.kindOf y=some k->(k= .cell∨k= .free)->∃c,ie.cells.lookup y=some c:=λk hk GX=>by
    unfold Env.kindOf at hk;rw [X5] at hk;obtain ⟨k',e,r⟩:=nG hk;have:k'= .cell∨k'= .free:=by
     rcases r with rfl|⟨rfl,_⟩
     ·exact GX
     ·exact .inr rfl
    rcases this with rfl|rfl
    ·obtain ⟨c,hm⟩:=r6 (n:=(s.heap.push {cls:= .type "dict",data:= .dict #[]}).objs.size) (acc:=dN X.env.cells scope.names []) (bO e);obtain ⟨c',e'⟩:=mem_lookup hm;exact ⟨c',by rw [xc];exact e'⟩
    ·obtain ⟨c,h1,_⟩:=look e;exact ⟨c,h1⟩
   rcases hy with hy|hy
   ·exact key _ hy (.inl rfl)
   ·exact key _ hy (.inr rfl)
  ·have z:(scope.names.lookup y==some NameKind.cell)=true:=z;have z:scope.names.lookup y=some .cell:=by simpa using z
   have e:ie.cells.lookup y=some c:=e;rw [xc] at e;rcases lC (bO e) with hm|⟨_,h2,_⟩
   ·rcases kq hm with hm|⟨h1,_⟩
    ·cases hm
    ·have q:=ok.uniq _ h1;rw [z] at q;cases q
   ·rw [Heap.size_push] at h2;exact lU h2
  ·show b≠ie.locals;rw [hL];exact bH (LK b hb).2
  ·have e:ie.cells.lookup y=some c:=e;rcases mem e with ⟨h1,_⟩|⟨h1,_⟩
   ·exact (LK b hb).1.2.2.2.2.1 y c h1 z
   ·have h2:s.heap.objs.size+1<=b:=by rw [<-z];exact h1
    exact absurd (bu (LK b hb).2 (lU h2)) (dW _)
  ·rcases (LK b hb).1.2.2.2.1 with z|z
   ·exact I.ok.JD b o e z
   ·exact absurd (bu (Heap.lt_size e) (aV I.ok.NV z)) (dW _)
  ·rcases aD.mp (I.CT b z) with z|z
   ·exact (LK b hb).1.2.1 z
   ·exact (LK b hb).1.2.2.1 z
 refine ⟨okB,rfl,I.bare,Un.kept kp,⟨λ_=>none,?_,λi y av e1 e2 e3=>?_⟩,λy c e=>?_,?_,λy c e=>?_,λp hp=>?_,I.cO.kept kp,by rw [ni];exact I.len⟩
 ·show Heap.Ns _ ie.locals _;rw [hL];exact Heap.Ns.keeps (Heap.Ns.new ..) λb o e=>ae3 _ _ _ _ e
 ·obtain ⟨e2,gp⟩:=rA e2;have VY:scope.names.lookup y=some .free/\(ie.kindOf y=some .cell∨ie.kindOf y=some .free):=by
   have key: ∀k,ie.scope.names.lookup y=some k->k= .local∨k= .cell∨k= .free->scope.names.lookup y=some .free/\(ie.kindOf y=some .cell∨ie.kindOf y=some .free):=λk hk GX=>by
    have OD:=hk;rw [X5] at hk;obtain ⟨k',e,r⟩:=nG hk;have no: ¬(k'= .local∨k'= .cell):=λhh=>by
     rcases ok.own _ (bO e) hh with e'|e'
     ·obtain ⟨p,hp,TW⟩:=aj.mp e';have e3:=ok.ix p hp;have:p.1=y:=TW;rw [this] at e3;exact gp (aj.mpr ⟨p,hp,vh hN e3 e1⟩)
     ·exact e' (aI e1)
    rcases r with rfl|⟨rfl,rfl⟩
    ·rcases GX with rfl|rfl|rfl
     ·exact absurd (.inl rfl) no
     ·exact absurd (.inr rfl) no
     ·exact ⟨e, .inr OD⟩
    ·exact ⟨e, .inl OD⟩
   have e3:U7 ie.scope y:=e3;rcases e3 with e3|e3|e3
   ·exact key _ e3 (.inl rfl)
   ·exact key _ e3 (.inr (.inl rfl))
   ·exact key _ e3 (.inr (.inr rfl))
  obtain ⟨m,hn,hl⟩:=I.loc;have XW:U7 X.env.scope y:=(ok.free _ (bO VY.1) rfl).elim (λk=> .inr (.inl k)) (λk=> .inr (.inr k));obtain ⟨w,r,q⟩:=hl i y av e1 e2 XW;refine ⟨w,r, .inr ⟨VY.2,?_⟩⟩;obtain ⟨c,h1,h2⟩:=look VY.1;rcases q with ⟨k,_⟩|⟨_,c',e',z⟩
  ·have k:X.env.scope.names.lookup y=some .local:=k;rcases ok.free _ (bO VY.1) rfl with k'|k'<;>rw [show X.env.scope.names.lookup y=_ from k'] at k<;>cases k
  ·rw [h2] at e';cases e';exact ⟨c,h1,z.keeps kp⟩
 ·have e:ie.cells.lookup y=some c:=e;rcases mem e with ⟨h1,_⟩|⟨_,z⟩
  ·obtain ⟨w,z⟩:=I.cell y c h1;exact ⟨w,z.keeps kp⟩
  ·exact ⟨_,z⟩
 ·show H ie.locals=none;rw [hL];exact I.cO.fresh (ay _)
 ·have e:ie.cells.lookup y=some c:=e;rcases mem e with ⟨h1,_⟩|⟨h1,_⟩
  ·exact I.lm y c h1
  ·exact I.cO.fresh (lU h1)
 ·exact absurd (show p∈([]:List (Addr×Obj))++ [] from hp) (by simp)
def Q7 {E:Value->adN->Prop} {D:Addr} {xs:List V} {y:V} {v:Value} {Q:Value->adN->Prop} (I:Inv X pins σ H s) (hD:H D=some (.lst xs)) (hz:xs.length<sizeLine) (r:RelV y v)
  (h: ∀s',Inv X pins σ (upd H D (.lst (xs++ [y]))) s'->Q .none s'):wpAny (adR X.prog X.w) X.A (call (.builtin "list.append") [.ref D,v]) Q E s:=by
 obtain ⟨VI,its,n,ri,e⟩:=I.cO D _ hD;have hl:=ri.length;refine append_at (hsz:=by rw [bf];omega) e λh' sb Cr=>?_;refine h {s with heap:=h'} (I.write (t':=s.toks) (by rw [hD];trivial) (.inl rfl) (λb u hb q=>(sb.2 b hb).trans q) ⟨_,Cr⟩ ⟨by rw [aL];exact hz,its++ [v],n+1,ri.append (.cons r .nil),?_⟩);rw [Cr];simp
def Va (X:Cx) (ifs:List adS) (t:TT):Prop:=
 ∀(pins:List (Addr×Obj)) (s:adN) (σ:St) (H:Hp) (Q:Bool->Hp->Prop),Inv X pins σ H s->t σ H Q->
  wpAny (adR X.prog X.w) X.A (forIn ifs true λc r=>if r=true then do let ok<-isTrue c X.env (eval c X.env);pure (lV ok) else pure (lV r)) (TP X pins σ Q) X.xe s
def WM:TT:=λ_ H Q=>Q true H
def fw:Va X [] WM:=λ_ _ _ H _ I h=>wpAny_tests_nil ⟨H,I,h⟩
def oG {c:adS} {t:TT} (h:PT X c t):Va X [c] t:=λpins s σ H Q I hw=>wpAny_tests_one (h pins s σ H Q I hw)
end
def F0 {α:Type} {t:Sem α} {Q Q':α->adN->Prop} {M:Model} {A:adW} {E:Value->adN->Prop} {s:adN} (h:wpAny M A t Q (λ_ _=>False) s) (hQ: ∀a s,Q a s->Q' a s):wpAny M A t Q' E s:=wpAny_mono h hQ λ_ _ z=>dj z
def zB {prog:adT} {w:adQ} {A:adW} {R:Result->adN->Prop} {s:adN} {elt target iter:adS} {ifs:List adS} {scope:ad1} {pos:Pos} {it acc:Value} {env:Env} (I:Nat->adN->Prop)
  (turn: ∀n s,I n s->wpAny (adR prog w) A (aef it) (λr dG=>match r with
   |none=>R (.ok .next) dG
   |some v=>wpAny (adR prog w) A (aeY target it v) (λ_ Ob=>wpAny (adR prog w) A (assign target env v) (λ_ kF=>
     wpAny (adR prog w) A (forIn ifs true λc r=>if r=true then do let ok<-isTrue c env (eval c env);pure (lV ok) else pure (lV r)) (λok F6=>
      if ok=true then wpAny (adR prog w) A (eval elt env) (λx Sq=>
       wpAny (adR prog w) A (call (.builtin "list.append") [acc,x]) (λ_ So=> ∃m,m<n/\I m So) (aeH (adR prog w) A env λe s'=>R (.error e) s') Sq) (aeH (adR prog w) A env λe s'=>R (.error e) s') F6
      else∃m,m<n/\I m F6) (aeH (adR prog w) A env λe s'=>R (.error e) s') kF) (aeH (adR prog w) A env λe s'=>R (.error e) s') Ob) (aeH (adR prog w) A env λe s'=>R (.error e) s') dG) (aeH (adR prog w) A env λe s'=>R (.error e) s') s)
  (n:Nat) (h:I n s):
  codeAny (adR prog w) A (.compLoop (.ListComp elt [⟨target,iter,ifs,0⟩] scope pos) 0 it acc env) R s:=by
 refine codeAny_loop rfl I (λn s hI=>?_) n h;show wpAny _ A ((compTurn (.ListComp elt [⟨target,iter,ifs,0⟩] scope pos) 0 it acc env).onRaise (λx=>do noteFrame x env;theTreesLotGoes x)) _ _ s;refine wpAny_noted ?_;rw [compTurn_list];refine adP (aeO (adP (wpAny_mono (turn n s hI) (λr dG pU=>?_) λ_ _ h'=>h')));cases r with
 |none=>exact adV pU
 |some v=>
  refine adP (wpAny_mono pU (λ_ Ob Tw=>?_) λ_ _ h'=>h');refine adP (wpAny_mono Tw (λ_ kF vC=>adP (wpAny_mono vC (λok F6 tu=>?_) λ_ _ h'=>h')) λ_ _ h'=>h');cases ok with
  |false=>exact adV ⟨rfl,tu⟩
  |true=>
   exact adP (adP (wpAny_mono tu (λx Sq Bu=>adP (wpAny_mono Bu (λ_ So GS=>adV (adV ⟨rfl,GS⟩)) λ_ _ h'=>h')) λ_ _ h'=>h'))
section
variable {X:Cx}
def Sf (wi:TI) (g:TG) (tt:TT) (te:TE) (vs:List Nat):TE:=λσ H Q=>wi σ H λJ H1=> ∀D,H1 D=none->∃W:Nat->Nat->Hp->Prop,(∃m,W 0 m (upd H1 D (.lst [])))/\∀i m H,W i m H->
 (J.stop i H/\Q (.ref D) H)∨(J.go i H/\∃Nx:Hp->Prop,(∀H',Nx H'->∃m',m'<m/\W (i+1) m' H')/\∀x H',J.Ik i H x H'->g x (wipe σ vs) H' λkT H2=>wipe kT vs=wipe σ vs/\tt kT H2 λb H3=>
  if b=true then te kT H3 λy H4=> ∃acc,H4 D=some (.lst acc)/\acc.length<sizeLine/\Nx (upd H4 D (.lst (acc++ [y]))) else Nx H3)
def Fd {pins:List (Addr×Obj)} {s:adN} {σ:St} {H:Hp} {Q:VK} {elt tg iter:adS} {ifs:List adS} {scope:ad1} {own:List (Str×Nat)} {pos pos':Pos} {wi:TI} {g:TG} {tt:TT} {te:TE} {use:Option (Value->Sem Unit)} {Qf:Value->adN->Prop}
  (hc:X.calm=true) (hN:X.N.Nodup) (I:Inv X pins σ H s) (hi:PI X tg iter wi) (ok:Cd X.N X.env.scope scope own)
  (hg: ∀(s:adN) (H:Hp) (C:Addr) (cl:List (Str×Addr)) (fp:List Addr),PG (X.zG s H scope (aea scope cl C X.env) fp) tg g) (ht: ∀(s:adN) (H:Hp) (C:Addr) (cl:List (Str×Addr)) (fp:List Addr),Va (X.zG s H scope (aea scope cl C X.env) fp) ifs tt)
  (he: ∀(s:adN) (H:Hp) (C:Addr) (cl:List (Str×Addr)) (fp:List Addr),PE (X.zG s H scope (aea scope cl C X.env) fp) elt te) (hs: ∀x,ae0 iter X.env x=pure x)
  (h:Sf wi g tt te (own.map (·.2)) σ H Q)
  (hRR: ∀D C s' m H',Inv X pins σ H' s'->Q (.ref D) H'->s'.heap.Ns C m->tG X pins H' C->compPost (adR X.prog X.w) X.A X.xe use Qf (.ref D) C (.ok .next) s'):
  wpAny (adR X.prog X.w) X.A (comprehension (.ListComp elt [⟨tg,iter,ifs,0⟩] scope pos) scope X.env pos' (newList []) false (eval iter X.env) use) Qf X.xe s:=by
 have ya: ∀y∈scope.names,y.2= .free->∃c,X.env.cells.lookup y.1=some c:=λy hy e=>by
  rcases ok.free y hy e with k|k
  ·exact I.ok.has _ (.inl k)
  ·exact I.ok.has _ (.inr k)
 refine wpAny_comprehension_free (use:=use) rfl hs (D6 ya) ok.kind (λy hy e=>by rw [ok.uniq y hy,e])
  (dJ (hi pins s σ H _ I h) λxv s1 hx=>dJ hx λXH s2 h2=>?_)
 obtain ⟨it,fp,tn,J,H2,e,I2,T,Vz,f2,q⟩:=h2;subst e;refine aeS (Bb ?_) (by show 0<=sizeLine;decide);generalize hD:s2.heap.objs.size=D;have hDn:H2 D=none:=I2.cO.fresh (tO hD);obtain ⟨W,⟨m0,w0⟩,turn⟩:=q D hDn;generalize ZP:({s2 with heap:=s2.heap.push {cls:= .type "list",data:= .seq ([]:List Value).toArray}}:adN)=s3;have I3:Inv X pins σ (upd H2 D (.lst [])) s3:=by
  rw [<-ZP];refine I2.laid (t':=s2.toks) (λb o e=>Heap.get?_push_of_some _ e) (tO hD) ⟨bv _,[],0, .nil,?_⟩;rw [<-hD];exact Heap.get?_push_size _ rfl
 have h3:s3.heap=s2.heap.push {cls:= .type "list",data:= .seq ([]:List Value).toArray}:=by rw [<-ZP]
 have sz: ∀b∈fp,b<s2.heap.objs.size:=λb hb=>by
  obtain ⟨o,e,_⟩:=T.obj _ _ Vz b hb;exact Heap.lt_size e
 have f3: ∀b∈fp,tG X pins (upd H2 D (.lst [])) b/\b<s3.heap.objs.size:=λb hb=>by
  have jd:=sz b hb;refine ⟨⟨?_,(f2 b hb).2⟩,by rw [h3,Heap.size_push];exact lS jd⟩;rw [bL (by rw [<-hD];exact bH jd)];exact (f2 b hb).1
 have Vy:tn 0 s3.heap:=T.keep _ _ _ Vz λb _ o e=>by rw [h3];exact Heap.get?_push_of_some _ e
 have I4:=BS I3 ok hN f3;have pg:=hg s3 (upd H2 D (.lst [])) s3.heap.objs.size (ad3 (s3.heap.objs.size+1) scope.names (dN X.env.cells scope.names [])) fp;have pt:=ht s3 (upd H2 D (.lst [])) s3.heap.objs.size (ad3 (s3.heap.objs.size+1) scope.names (dN X.env.cells scope.names [])) fp;have pe:=he s3 (upd H2 D (.lst [])) s3.heap.objs.size (ad3 (s3.heap.objs.size+1) scope.names (dN X.env.cells scope.names [])) fp;show codeAny _ _ (.compStart (.ListComp elt [⟨tg,iter,ifs,0⟩] scope pos) 0 (.ref it) (.ref D) (aea scope (ad3 (s3.heap.objs.size+1) scope.names (dN X.env.cells scope.names [])) s3.heap.objs.size X.env)) (compPost (adR X.prog X.w) X.A X.xe use Qf (.ref D) s3.heap.objs.size) {s3 with heap:=aes (s3.heap.push {cls:= .type "dict",data:= .dict #[]}) scope.names};have Zw: ∀b∈fp,(upd H2 D (.lst [])) b=none:=λb hb=>(f3 b hb).1.1;generalize hce:aea scope (ad3 (s3.heap.objs.size+1) scope.names (dN X.env.cells scope.names [])) s3.heap.objs.size X.env=ce at I4 pg pt pe⊢;have cL:ce.locals=s3.heap.objs.size:=by subst hce;rfl
 generalize hH3:upd H2 D (.lst [])=H3 at I3 I4 pg pt pe w0 Zw f3;generalize hs4:({s3 with heap:=aes (s3.heap.push {cls:= .type "dict",data:= .dict #[]}) scope.names}:adN)=s4 at I4⊢;have Zq:tn 0 s4.heap:=T.keep _ _ _ Vy λb _ o e=>by rw [<-hs4];exact ae3 _ _ _ _ (Heap.get?_push_of_some _ e)
 have CU: ∀{eX:St} {H':Hp} {s':adN},Inv (X.zG s3 H3 scope ce fp) [] eX H' s'->(∀b∈fp,H' b=none)->∀b∈fp,tG (X.zG s3 H3 scope ce fp) [] H' b:=λ{eX H' s'} I' hn b hb=>
  ⟨hn b hb,(I'.ok.Wb b hb).1,I'.ok.KZ b hb, .inl hb,λx c e=>(I'.ok.Wb b hb).2 x c e,λp hp=>absurd (show p∈([]:List (Addr×Obj))++ [] from hp) (by simp)⟩
 have loop:codeAny (adR X.prog X.w) X.A (.compLoop (.ListComp elt [⟨tg,iter,ifs,0⟩] scope pos) 0 (.ref it) (.ref D) ce) (compPost (adR X.prog X.w) X.A X.xe use Qf (.ref D) s3.heap.objs.size) s4:=by
  refine zB (λn s'=> ∃i H',Inv (X.zG s3 H3 scope ce fp) [] (wipe σ (own.map (·.2))) H' s'/\tn i s'.heap/\(∀b∈fp,H' b=none)/\W i n H') ?_ m0 ⟨0,H3,I4,Zq,Zw,w0⟩;rintro n s5 ⟨i,H5,I5,Rp,n5,w5⟩;rcases turn i n H5 w5 with ⟨stop,qq⟩|⟨go,Nx,hNx,step⟩
  ·have td:=T.done (X.zG s3 H3 scope ce fp) rfl rfl rfl hc i [] s5 _ H5 (λ_ _=>False) I5 (CU I5 n5) Rp stop;refine F0 td λr s6 ⟨hr,I6⟩=>?_;subst hr;have I7:Inv X pins σ H5 s6:=I3.U2 (ch:=fp) I6.os I6.base I6.cO I6.bare λb hb=>⟨(f3 b hb).1.2.2.2.1,(f3 b hb).1.2.1,(f3 b hb).1.2.2.2.2.1,(f3 b hb).1.2.2.2.2.2⟩
   have nC:H5 s3.heap.objs.size=none:=by
    have z:H5 ce.locals=none:=I6.free;rw [cL] at z;exact z
   obtain ⟨m,hn,_⟩:=I6.loc;have hn:s6.heap.Ns ce.locals m:=hn;rw [cL] at hn;exact hRR D s3.heap.objs.size s6 m H5 I7 qq hn (I3.DU (ay _) nC)
  ·have ti:=T.item (X.zG s3 H3 scope ce fp) rfl rfl rfl hc i [] s5 _ H5 (λ_ _=>False) I5 (CU I5 n5) Rp go;refine F0 ti λr s6 ⟨u,hr,h6⟩=>?_;subst hr;refine F0 h6 λ_ s7 ⟨x,H7,I7,r7,y7,WY,n7⟩=>?_;have I7':=I7.pinned (CU I7 n7) (T.obj _ _ WY);refine F0 (pg _ s7 _ H7 x u _ I7' r7 (step x H7 y7)) λ_ s8 ⟨Vt,H8,I8,VN,q8⟩=>?_;refine F0 (pt _ s8 Vt H8 _ I8 q8) λb s9 ⟨H9,I9,q9⟩=>?_;have fin: ∀{s':adN} {H':Hp},Inv (X.zG s3 H3 scope ce fp) ([] ++u1 fp s7.heap) Vt H' s'->Nx H'->∃m,m<n/\∃i H',Inv (X.zG s3 H3 scope ce fp) [] (wipe σ (own.map (·.2))) H' s'/\tn i s'.heap/\(∀b∈fp,H' b=none)/\W i m H':=λ{s' H'} I' nx=>by
    obtain ⟨m',hm,w'⟩:=hNx H' nx;have SW: ∀b∈fp, ∀o,s7.heap.get? b=some o->s'.heap.get? b=some o/\H' b=none:=λb hb o e=>
     let z:=I'.pin (b,o) (cJ _ (cJ _ (pR hb e)))
     ⟨z.1,z.2.1⟩
    have hl:(wipe σ (own.map (·.2))).length=Vt.length:=by rw [<-VN,ni]
    refine ⟨m',hm,i+1,H',(I'.qt (pins:= [])).weak hl (λj v e=>?_),T.keep _ _ _ WY λb hb o e=>(SW b hb o e).1,λb hb=>?_,w'⟩
    ·rw [<-VN] at e;exact (rA e).1
    ·obtain ⟨o,e,_⟩:=T.obj _ _ WY b hb;exact (SW b hb o e).2
   cases b with
   |false=>
    simp only [bN,if_false] at q9⊢;exact fin I9 q9
   |true=>
    simp only [if_true] at q9⊢;refine F0 (pe _ s9 Vt H9 _ I9 q9) λz s10 ⟨yv,H10,I10,r10,acc,YL,XN,nx⟩=>?_;exact Q7 (X:=X.zG s3 H3 scope ce fp) I10 YL XN r10 λs11 I11=>fin I11 nx
 exact codeAny_compStart_list loop (T.self X.A 0 _ _ _ Zq loop)
def iD {elt tg iter:adS} {ifs:List adS} {scope:ad1} {own:List (Str×Nat)} {pos:Pos} {wi:TI} {g:TG} {tt:TT} {te:TE} (hc:X.calm=true) (hN:X.N.Nodup) (hi:PI X tg iter wi) (ok:Cd X.N X.env.scope scope own)
  (hg: ∀(s:adN) (H:Hp) (C:Addr) (cl:List (Str×Addr)) (fp:List Addr),PG (X.zG s H scope (aea scope cl C X.env) fp) tg g) (ht: ∀(s:adN) (H:Hp) (C:Addr) (cl:List (Str×Addr)) (fp:List Addr),Va (X.zG s H scope (aea scope cl C X.env) fp) ifs tt)
  (he: ∀(s:adN) (H:Hp) (C:Addr) (cl:List (Str×Addr)) (fp:List Addr),PE (X.zG s H scope (aea scope cl C X.env) fp) elt te) (hs: ∀x,ae0 iter X.env x=pure x:=by intro _;rfl):
  PE X (.ListComp elt [⟨tg,iter,ifs,0⟩] scope pos) (Sf wi g tt te (own.map (·.2))):=by
 intro pins s σ H Q I h;rw [eval_ListComp];refine Fd hc hN I hi ok hg ht he hs h λD C s' m H' I' q hn f=>⟨m,hn,λwD sb=>?_⟩
 obtain ⟨f0,f1,f2,f3,f4,f5⟩:=f;exact ⟨.ref D,H',I'.turned (t':=s'.toks) (λb o hb e=>(sb.2 b hb).trans e) f0 f1 f3 f4 f5,rfl,q⟩
def qB {i:Nat} {y:Str} {py:Pos} {elt tg iter:adS} {ifs:List adS} {scope:ad1} {own:List (Str×Nat)} {pos Su:Pos} {wi:TI} {g:TG} {tt:TT} {te:TE} (hc:X.calm=true) (hN:X.N.Nodup) (hy:X.N[i]?=some y) (M8:X.env.scope.names.lookup y=some .local)
  (hsw:aeo (.ListComp elt [⟨tg,iter,ifs,0⟩] scope pos) (some (.Name y py)) Su.line X.env=pure true) (hi:PI X tg iter wi) (ok:Cd X.N X.env.scope scope own)
  (hg: ∀(s:adN) (H:Hp) (C:Addr) (cl:List (Str×Addr)) (fp:List Addr),PG (X.zG s H scope (aea scope cl C X.env) fp) tg g) (ht: ∀(s:adN) (H:Hp) (C:Addr) (cl:List (Str×Addr)) (fp:List Addr),Va (X.zG s H scope (aea scope cl C X.env) fp) ifs tt)
  (he: ∀(s:adN) (H:Hp) (C:Addr) (cl:List (Str×Addr)) (fp:List Addr),PE (X.zG s H scope (aea scope cl C X.env) fp) elt te) (hs: ∀x,ae0 iter X.env x=pure x:=by intro _;rfl):
  PS X (.Assign [.Name y py] (.ListComp elt [⟨tg,iter,ifs,0⟩] scope pos) Su) (Ml (Sf wi g tt te (own.map (·.2))) (vJ i)):=by
 intro pins s σ H D I h;rw [exec_Assign_Name_used _ _ _ _ hsw];refine adP (aeO (adP ?_));show wpAny _ X.A (do let _<-comprehension (.ListComp elt [⟨tg,iter,ifs,0⟩] scope pos) scope X.env (firstIterPos [⟨tg,iter,ifs,0⟩] pos) (newList []) false (eval iter X.env) (some (assign (.Name y py) X.env))) _ _ s;have h:Sf wi g tt te (own.map (·.2)) σ H (λx H1=>vJ i x σ H1 D.nx):=h;refine adP (dJ (Fd (Qf:=λ_ s'=>SP X pins D .next s') hc hN I hi ok hg ht he hs h λL C s' m H' I' q hn f=>?_) λ_ s' hq=>adV (adV hq));show wpAny _ _ (assign (.Name y py) X.env (.ref L)) _ _ _;refine wpAny_assign_Name (xA (v:=V.ref L) I' hN hy (.inl M8) rfl (λs2 I2 ⟨a,sb,ha⟩=>?_) (.inr M8));obtain ⟨f0,f1,f2,f3,f4,f5⟩:=f;have haC:C≠a:=by
  rcases ha with z|z
  ·rw [z];exact f1
  ·exact λe=>f4 y a z e.symm
 refine ⟨m,hn.sameBut sb haC,λh3 sb3=>?_⟩;exact ⟨_,H',I2.turned (t':=s2.toks) (λb o hb e=>(sb3.2 b hb).trans e) f0 f1 f3 f4 f5,q⟩
def tR {elt:adS} {gs:List Comprehension} {scope:ad1} {pos py:Pos} {y:Str} {l:Nat} {env:Env} (hk:env.scope.kind= .function) (hy:env.scope.names.lookup y=some .local) (hl:(py.line==pos.line)=true)
  (ha:(scope.names.any λ(n,k)=>n==y&&(k== .local||k== .cell))=false):aeo (.ListComp elt gs scope pos) (some (.Name y py)) l env=pure true:=by
 have ky:env.kindOf y=some .local:=hy;have hb:env.blockKind= .function:=by unfold Env.blockKind;rw [hk];rfl
 unfold aeo;simp only [hb,ky,ha,Expr.pos,hl];rfl
end
def Bp {lo:Int} {n:Nat} {g:TG} {tt:TT} {te:TE} {vs:List Nat} {σ:St} {H1:Hp} {D:Addr} {Qd:Hp->Prop} (Pv:Nat->Hp->Prop) (h0:Pv 0 (upd H1 D (.lst [])))
  (hs: ∀i H,i<n->Pv i H->g (.int (lo+i)) (wipe σ vs) H λkT H2=>wipe kT vs=wipe σ vs/\tt kT H2 λb H3=>
   if b=true then te kT H3 λy H4=> ∃acc,H4 D=some (.lst acc)/\acc.length<sizeLine/\Pv (i+1) (upd H4 D (.lst (acc++ [y]))) else Pv (i+1) H3) (hd: ∀H,Pv n H->Qd H):
  ∃W:Nat->Nat->Hp->Prop,(∃m,W 0 m (upd H1 D (.lst [])))/\∀i m H,W i m H->
   ((LP lo n).stop i H/\Qd H)∨((LP lo n).go i H/\∃Nx:Hp->Prop,(∀H',Nx H'->∃m',m'<m/\W (i+1) m' H')/\∀x H',(LP lo n).Ik i H x H'->g x (wipe σ vs) H' λkT H2=>wipe kT vs=wipe σ vs/\tt kT H2 λb H3=>
    if b=true then te kT H3 λy H4=> ∃acc,H4 D=some (.lst acc)/\acc.length<sizeLine/\Nx (upd H4 D (.lst (acc++ [y]))) else Nx H3):=by
 refine ⟨λi m H=>m=n-i/\i<=n/\Pv i H,⟨n,by simp,bv _,h0⟩,?_⟩;rintro i m H ⟨rfl,hi,p⟩;by_cases jd:i<n
 ·refine .inr ⟨jd,Pv (i+1),λH' p'=>⟨n-(i+1),by omega,rfl,jd,p'⟩,λx H' y=>?_⟩;obtain ⟨e,y⟩:=y;subst e y;exact hs i _ jd p
 ·have e:i=n:=by omega
  subst e;exact .inl ⟨ay _,hd H p⟩
def fO {K:aa} {a:Addr} {xs:List V} {g:TG} {tt:TT} {te:TE} {vs:List Nat} {σ:St} {H1:Hp} {D:Addr} {Qd:Hp->Prop} (Pv:Nat->Hp->Prop) (h0:Pv 0 (upd H1 D (.lst []))) (hl: ∀i H,i<=xs.length->Pv i H->iF K H a xs)
  (hs: ∀i x H,xs[i]?=some x->Pv i H->g x (wipe σ vs) H λkT H2=>wipe kT vs=wipe σ vs/\tt kT H2 λb H3=>
   if b=true then te kT H3 λy H4=> ∃acc,H4 D=some (.lst acc)/\acc.length<sizeLine/\Pv (i+1) (upd H4 D (.lst (acc++ [y]))) else Pv (i+1) H3) (hd: ∀H,Pv xs.length H->Qd H):
  ∃W:Nat->Nat->Hp->Prop,(∃m,W 0 m (upd H1 D (.lst [])))/\∀i m H,W i m H->
   ((OZ K a).stop i H/\Qd H)∨((OZ K a).go i H/\∃Nx:Hp->Prop,(∀H',Nx H'->∃m',m'<m/\W (i+1) m' H')/\∀x H',(OZ K a).Ik i H x H'->g x (wipe σ vs) H' λkT H2=>wipe kT vs=wipe σ vs/\tt kT H2 λb H3=>
    if b=true then te kT H3 λy H4=> ∃acc,H4 D=some (.lst acc)/\acc.length<sizeLine/\Nx (upd H4 D (.lst (acc++ [y]))) else Nx H3):=by
 refine ⟨λi m H=>m=xs.length-i/\i<=xs.length/\Pv i H,⟨xs.length,by simp,bv _,h0⟩,?_⟩;rintro i m H ⟨rfl,hi,p⟩;have q:=hl i H hi p;by_cases jd:i<xs.length
 ·refine .inr ⟨⟨xs,xs[i],q,by simp [jd]⟩,Pv (i+1),λH' p'=>⟨xs.length-(i+1),by omega,rfl,jd,p'⟩,λx H' y=>?_⟩;obtain ⟨e,y⟩:=y;subst e;exact hs i x _ (y xs q) p
 ·have e:i=xs.length:=by omega
  subst e;exact .inl ⟨⟨xs,q,ay _⟩,hd H p⟩
def U4 (N:List Str) (sc scope:ad1) (own:List (Str×Nat)):Bool:=
 (match scope.kind with| .function=>true|_=>false)&&(scope.names.all λy=>decide (scope.names.lookup y.1=some y.2))&&(own.all λp=>decide (N[p.2]?=some p.1))&&
  (scope.names.all λy=>match y.2 with
   | .free=>(match sc.names.lookup y.1 with|some .cell=>true|some .free=>true|_=>false)
   | .local=>decide (y.1∈own.map (·.1))||decide (y.1∉N)
   | .cell=>decide (y.1∈own.map (·.1))||decide (y.1∉N)
   |_=>true)
def cX {N:List Str} {sc scope:ad1} {own:List (Str×Nat)} (h:U4 N sc scope own=true):Cd N sc scope own:=by
 unfold U4 at h;simp only [aU,bJ,decide_eq_true_eq] at h;obtain ⟨⟨⟨h1,h2⟩,h3⟩,h4⟩:=h;refine ⟨?_,h2,h3,λy hy e=>?_,λy hy e=>?_⟩
 ·split at h1
  ·assumption
  ·cases h1
 ·have q:=h4 y hy;simp only [e] at q;split at q<;>first|exact .inl (by assumption)|exact .inr (by assumption)|cases q
 ·have q:=h4 y hy;rcases e with e|e<;>(simp only [e,wN,decide_eq_true_eq] at q;exact q)
end L2
namespace L2
open PySem PySem.Spec PyProof.Rows
section
variable {κ:Type} [DecidableEq κ]
def cx (kvs:List (κ×V)) (k:κ):Option V:=(kvs.find? λkv=>decide (kv.1=k)).map (·.2)
def putK (kvs:List (κ×V)) (k:κ) (v:V):List (κ×V):=
 if (kvs.any λkv=>decide (kv.1=k))=true then kvs.map (λkv=>if kv.1=k then (kv.1,v) else kv) else kvs++ [(k,v)]
def gX (kvs:List (κ×V)) (k:κ):List (κ×V):=kvs.filter λkv=>decide (kv.1≠k)
def gw {p:κ×V} {r:List (κ×V)} {k:κ} (e:p.1=k):cx (p::r) k=some p.2:=by simp [cx,ij,e]
def gC {p:κ×V} {r:List (κ×V)} {k:κ} (e: ¬p.1=k):cx (p::r) k=cx r k:=by simp [cx,ij,e]
def fT (k:κ): ∀kvs:List (κ×V),(kvs.any λkv=>decide (kv.1=k))=(cx kvs k).isSome
 | []=>rfl
 |p::r=>by
  rw [Ab];by_cases e:p.1=k
  ·simp only [gw e,decide_eq_true e,RV,ic]
  ·rw [gC e,decide_eq_false e,rf];exact fT k r
def Ad (k j:κ) (y:V): ∀kvs:List (κ×V),cx (kvs.map λkv=>if kv.1=k then (kv.1,y) else kv) j=(cx kvs j).map λx=>if j=k then y else x
 | []=>rfl
 |p::r=>by
  have ih:=Ad k j y r;rw [be];by_cases h:p.1=k
  ·rw [if_pos h];by_cases e:p.1=j
   ·rw [gw (p:=(p.1,y)) e,gw e,dg,if_pos (e.symm.trans h)]
   ·rw [gC (p:=(p.1,y)) e,gC e,ih]
  ·rw [if_neg h];by_cases e:p.1=j
   ·rw [gw (p:=p) e,gw e,dg,if_neg (λz=>h (e.trans z))]
   ·rw [gC (p:=p) e,gC e,ih]
def xx (k j:κ) (y:V): ∀kvs:List (κ×V),cx kvs k=none->cx (kvs++ [(k,y)]) j=if j=k then some y else cx kvs j
 | [],_=>by
  by_cases e:k=j
  ·rw [if_pos e.symm];exact gw (p:=(k,y)) e
  ·rw [if_neg (λz=>e z.symm)];exact gC (p:=(k,y)) e
 |p::r,hn=>by
  rw [LV];have hk: ¬p.1=k:=λz=>by rw [gw z] at hn;cases hn
  rw [gC hk] at hn;have ih:=xx k j y r hn;by_cases e:p.1=j
  ·rw [gw e,gw e,if_neg (λz=>hk (e.trans z))]
  ·rw [gC e,gC e,ih]
def uq (kvs:List (κ×V)) (k j:κ) (y:V):cx (putK kvs k y) j=if j=k then some y else cx kvs j:=by
 unfold putK;by_cases a:(kvs.any λkv=>decide (kv.1=k))=true
 ·rw [if_pos a,Ad];rw [fT] at a;by_cases e:j=k
  ·obtain ⟨x,hx⟩:=yu.mp a;rw [if_pos e,e,hx,dg,if_pos rfl]
  ·rw [if_neg e];cases cx kvs j with
   |none=>rfl
   |some x=>rw [dg,if_neg e]
 ·rw [if_neg a];refine xx k j y kvs ?_;rw [fT] at a;cases q:cx kvs k with
  |none=>rfl
  |some x=>rw [q] at a;exact (a rfl).elim
def kh (kvs:List (κ×V)) (k:κ) (v:V):(putK kvs k v).length<=kvs.length+1:=by
 unfold putK;split
 ·rw [ab];omega
 ·rw [aL,aR,cU];omega
def qA {kvs:List (κ×V)} {k:κ} (v:V) (h:cx kvs k=none):putK kvs k v=kvs++ [(k,v)]:=by
 unfold putK;rw [fT,h];exact if_neg (by decide)
def j6.jF {o:Option V} {u:Option Value} (r:j6 o u):o.isSome=u.isSome:=by
 cases o with
 |none=>cases u with
  |none=>rfl
  |some _=>exact (show False from r).elim
 |some _=>cases u with
  |none=>exact (show False from r).elim
  |some _=>rfl
def j6.getD {o:Option V} {u:Option Value} {d:V} {d':Value} (r:j6 o u) (rd:RelV d d'):RelV (o.getD d) (u.getD d'):=by
 cases o with
 |none=>cases u with
  |none=>exact rd
  |some _=>exact (show False from r).elim
 |some _=>cases u with
  |none=>exact (show False from r).elim
  |some _=>exact r
def KV.val {kvs:List (κ×V)} {vs:List (κ×Value)} (r:KV kvs vs) (k:κ):j6 (cx kvs k) (aei vs k):=by
 unfold KV at r;induction r with
 |nil=>exact fy
 | @cons p q ps qs h t ih=>
  obtain ⟨h1,h2⟩:=h;by_cases e:p.1=k
  ·have e':q.1=k:=h1.symm.trans e;have b:aei (q::qs) k=some q.2:=by simp [aei,ij,e']
   rw [gw e,b];exact h2
  ·have e': ¬q.1=k:=λz=>e (h1.trans z);have b:aei (q::qs) k=aei qs k:=by simp [aei,ij,e']
   rw [gC e,b];exact ih
def KV.any {kvs:List (κ×V)} {vs:List (κ×Value)} (r:KV kvs vs) (k:κ):(kvs.any λkv=>decide (kv.1=k))=vs.any λkv=>decide (kv.1=k):=by
 unfold KV at r;induction r with
 |nil=>rfl
 |cons h t ih=>rw [Ab,Ab,ih,h.1]
def KV.Pt {kvs:List (κ×V)} {vs:List (κ×Value)} (r:KV kvs vs) (k:κ) {y:V} {u:Value} (ry:RelV y u):
  KV (kvs.map λkv=>if kv.1=k then (kv.1,y) else kv) (vs.map λkv=>if kv.1=k then (kv.1,u) else kv):=by
 unfold KV at r⊢;induction r with
 |nil=>exact .nil
 | @cons p q ps qs h t ih=>
  rw [be,be];refine .cons ?_ ih;obtain ⟨h1,h2⟩:=h;by_cases e:p.1=k
  ·rw [if_pos e,if_pos (h1.symm.trans e)];exact ⟨h1,ry⟩
  ·rw [if_neg e,if_neg (λz=>e (h1.trans z))];exact ⟨h1,h2⟩
def KV.put {kvs:List (κ×V)} {vs:List (κ×Value)} (r:KV kvs vs) (k:κ) {y:V} {u:Value} (ry:RelV y u):KV (putK kvs k y) (stored vs k u):=by
 unfold putK stored;rw [r.any k];by_cases e:(vs.any λkv=>decide (kv.1=k))=true
 ·rw [if_pos e,if_pos e];exact r.Pt k ry
 ·rw [if_neg e,if_neg e];exact Paired.snoc r ⟨rfl,ry⟩
def KV.drop {kvs:List (κ×V)} {vs:List (κ×Value)} (r:KV kvs vs) (k:κ):KV (gX kvs k) (without vs k):=by
 unfold KV at r⊢;unfold gX without;induction r with
 |nil=>exact .nil
 | @cons p q ps qs h t ih=>
  obtain ⟨h1,h2⟩:=h;rw [bw,bw];by_cases e:p.1=k
  ·have a: ¬decide (p.1≠k)=true:=by simp [e]
   have b: ¬decide (q.1≠k)=true:=by simp [h1.symm.trans e]
   rw [if_neg a,if_neg b];exact ih
  ·have e': ¬q.1=k:=λz=>e (h1.trans z);have a:decide (p.1≠k)=true:=by simp [e]
   have b:decide (q.1≠k)=true:=by simp [e']
   rw [if_pos a,if_pos b];exact .cons ⟨h1,h2⟩ ih
def KV.keys {kvs:List (κ×V)} {vs:List (κ×Value)} (r:KV kvs vs):kvs.map (·.1)=vs.map (·.1):=by
 unfold KV at r;induction r with
 |nil=>rfl
 |cons h t ih=>rw [be,be,ih,h.1]
def KV.length {kvs:List (κ×V)} {vs:List (κ×Value)} (r:KV kvs vs):kvs.length=vs.length:=Paired.length r
def BL (kvs:List (κ×V)) (k:κ):(gX kvs k).length<=kvs.length:=aN _ _
end
def nI {P:adT} {w:adQ} {k:Key} {u:Value} (r:RelV (kV k) u):(cI P w).is k u=true:=by
 cases k with
 |inl i=>obtain ⟨t,e⟩:=(show∃t,u=Value.int i t from r);subst e;exact Bd P w i t
 |inr x=>obtain ⟨t,e⟩:=(show∃t,u=Value.str x t from r);subst e;exact Bc P w x t
def xU {P:adT} {w:adQ}: ∀{ks:List Key} {us:List Value},Vals (ks.map kV) us->ItemsAre (cI P w) ks us
 | [],_,r=>by rw [gR] at r;cases r;exact .nil
 |k::ks,_,r=>by
  rw [be] at r;cases r with
  |cons h t=>exact .cons (nI h) (xU t)
abbrev KT (H:Hp):List (List Key×V)->List (List Key×Addr×Value)->Prop:=Paired λp q=>p.1=q.1/\H q.2.1=some (.tup (p.1.map kV))/\RelV p.2 q.2.2
def KT.val {H:Hp} {kvs:List (List Key×V)} {xs:List (List Key×Addr×Value)} (r:KT H kvs xs) (k:List Key):j6 (cx kvs k) ((aeb xs k).map (·.2)):=by
 induction r with
 |nil=>exact fy
 | @cons p q ps qs h t ih=>
  obtain ⟨h1,_,h2⟩:=h;by_cases e:p.1=k
  ·have e':q.1=k:=h1.symm.trans e;have b:aeb (q::qs) k=some q.2:=by simp [aeb,ij,e']
   rw [gw e,b];exact h2
  ·have e': ¬q.1=k:=λz=>e (h1.trans z);have b:aeb (q::qs) k=aeb qs k:=by simp [aeb,ij,e']
   rw [gC e,b];exact ih
def KT.Pt {H:Hp} {kvs:List (List Key×V)} {xs:List (List Key×Addr×Value)} (r:KT H kvs xs) (k:List Key) {y:V} {u:Value} (ry:RelV y u):
  KT H (kvs.map λkv=>if kv.1=k then (kv.1,y) else kv) (xs.map (putAt k u)):=by
 induction r with
 |nil=>exact .nil
 | @cons p q ps qs h t ih=>
  rw [be,be];refine .cons ?_ ih;obtain ⟨h1,h2,h3⟩:=h;unfold putAt;by_cases e:p.1=k
  ·rw [if_pos e,if_pos (h1.symm.trans e)];exact ⟨h1,h2,ry⟩
  ·rw [if_neg e,if_neg (λz=>e (h1.trans z))];exact ⟨h1,h2,h3⟩
def KT.put {H:Hp} {kvs:List (List Key×V)} {xs:List (List Key×Addr×Value)} (r:KT H kvs xs) (k:List Key) {b:Addr} {y:V} {u:Value} (hb:H b=some (.tup (k.map kV))) (ry:RelV y u):
  KT H (putK kvs k y) (storedH xs k b u):=by
 have e:(kvs.any λkv=>decide (kv.1=k))=(aeb xs k).isSome:=by
  rw [fT,(r.val k).jF,rn]
 unfold putK storedH;rw [e];by_cases q:(aeb xs k).isSome=true
 ·rw [if_pos q,if_pos q];exact r.Pt k ry
 ·rw [if_neg q,if_neg q];exact Paired.snoc r ⟨rfl,hb,ry⟩
def KT.keeps {H H':Hp} {kvs:List (List Key×V)} {xs:List (List Key×Addr×Value)} (r:KT H kvs xs) (ht: ∀b ys,H b=some (.tup ys)->H' b=some (.tup ys)):KT H' kvs xs:=
 Paired.PX r λ_ _ z=>⟨z.1,ht _ _ z.2.1,z.2.2⟩
section
variable {P:adT} {w:adQ} {H:Hp} {h:adO} {a:Addr}
def Ol {u:HO} (ok:oh P w H h) (e:Rd H a u):dZ P w H h a u:=e.ok ok
def nP {kvs:List (Key×V)} (ok:oh P w H h) (e:Rd H a (.dK kvs)):kvs.length<=sizeLine/\(a==ad4)=false/\∃vs,KV kvs vs/\h.DictOf (cI P w) a vs:=
 show dZ P w H h a (.dK kvs) from Ol ok e
def Ft {kvs:List (Key×V)} (ok:oh P w H h) (e:H a=some (.dK kvs)):kvs.length<=sizeLine/\(a==ad4)=false/\∃vs,KV kvs vs/\h.DictOf (cI P w) a vs:=nP ok (.inl e)
def pS {ks:List Key} (ok:oh P w H h) (e:H a=some (.tup (ks.map kV))):(aev (cI P w)).is h ks a:=by
 obtain ⟨_,its,r,o,h1,h2,n,h3⟩:=(show dZ P w H h a (.tup (ks.map kV)) from ok a _ e)
 exact ⟨o,its.toArray,n,h1,h2,h3,by simpa using xU r⟩
def vS {kvs:List (List Key×V)} (ok:oh P w H h) (e:Rd H a (.dT kvs)):kvs.length<=sizeLine/\(a==ad4)=false/\
  ∃xs,KT H kvs xs/\h.DictOfH (aev (cI P w)) a xs:=by
 obtain ⟨z,y,xs,r,o,es,ep,h1,h2,h3,h4,h5⟩:=(show dZ P w H h a (.dT kvs) from Ol ok e)
 refine ⟨z,y,xs,r,o,es,ep,h1,h2,h3,h4,λx hx=>?_,h5⟩;have all: ∀{l:List (List Key×V)} {m:List (List Key×Addr×Value)},KT H l m->∀x∈m,(aev (cI P w)).is h x.1 x.2.1:=by
  intro l m q;induction q with
  |nil=>intro x hx;exact nomatch hx
  | @cons p q ps qs hq t ih=>
   intro x hx;rcases aD.mp hx with e|hx
   ·subst e;exact pS ok (by rw [<-hq.1];exact hq.2.1)
   ·exact ih x hx
 exact all r x hx
def K7 {kvs:List (List Key×V)} (ok:oh P w H h) (e:H a=some (.dT kvs)):kvs.length<=sizeLine/\(a==ad4)=false/\
  ∃xs,KT H kvs xs/\h.DictOfH (aev (cI P w)) a xs:=vS ok (.inl e)
end
def j7 (H:Hp) (a:Addr) (y:V) (r:Option V):Prop:=
 (∃kvs k,Rd H a (.dK kvs)/\y=kV k/\r=cx kvs k)∨∃kvs k b,Rd H a (.dT kvs)/\y= .ref b/\H b=some (.tup (k.map kV))/\r=cx kvs k
def oq (H:Hp) (a:Addr) (y v:V) (H':Hp):Prop:=
 (∃kvs k,H a=some (.dK kvs)/\y=kV k/\kvs.length<sizeLine/\H'=upd H a (.dK (putK kvs k v)))∨
 ∃kvs k b,H a=some (.dT kvs)/\y= .ref b/\H b=some (.tup (k.map kV))/\kvs.length<sizeLine/\H'=upd H a (.dT (putK kvs k v))
def j7.k {H:Hp} {a:Addr} {kvs:List (Key×V)} {k:Key} (e:H a=some (.dK kvs)):j7 H a (kV k) (cx kvs k):= .inl ⟨kvs,k, .inl e,rfl,rfl⟩
def j7.t {H:Hp} {a b:Addr} {kvs:List (List Key×V)} {k:List Key} (e:H a=some (.dT kvs)) (eb:H b=some (.tup (k.map kV))):j7 H a (.ref b) (cx kvs k):= .inr ⟨kvs,k,b, .inl e,rfl,eb,rfl⟩
def oq.k {H:Hp} {a:Addr} {kvs:List (Key×V)} {k:Key} {v:V} (e:H a=some (.dK kvs)) (hl:kvs.length<sizeLine):oq H a (kV k) v (upd H a (.dK (putK kvs k v))):= .inl ⟨kvs,k,e,rfl,hl,rfl⟩
def oq.t {H:Hp} {a b:Addr} {kvs:List (List Key×V)} {k:List Key} {v:V} (e:H a=some (.dT kvs)) (eb:H b=some (.tup (k.map kV))) (hl:kvs.length<sizeLine):
  oq H a (.ref b) v (upd H a (.dT (putK kvs k v))):= .inr ⟨kvs,k,b,e,rfl,eb,hl,rfl⟩
section
variable {X:Cx} {pins:List (Addr×Obj)} {σ:St} {H:Hp} {s:adN} {a:Addr} {y v:V} {u r:Value} {o:Option V} {A:adW} {E:Value->adN->Prop}
def Inv.big (I:Inv X pins σ H s):ad4<s.heap.objs.size:=by
 have h:adX<s.heap.objs.size:=(I.mod.glob.keeps I.bk).lt;exact ou (by decide) h
def Hu {Q:Value->adN->Prop} (hu:A.units+1<ad0) (I:Inv X pins σ H s) (g:j7 H a y (some v)) (ry:RelV y u) (h: ∀w' s',Inv X pins σ H s'->RelV v w'->Q w' s'):
  wpAny (adR X.prog X.w) A (aeG (.ref a) u) Q E s:=by
 rcases g with ⟨kvs,k,e,ey,l⟩|⟨kvs,k,b,e,ey,eb,l⟩
 ·subst ey;obtain ⟨z,hd,vs,rel,dd⟩:=nP I.cO e;obtain ⟨w',hw,uT⟩:=j6.some_of (v:=v) (o:=aei vs k) (by rw [l];exact rel.val k);exact wpAny_getItem_of (nI ry) dd.mapOf hw (h w' _ (I.tok _) uT)
 ·subst ey;cases (show u=Value.ref b from ry);obtain ⟨z,hd,xs,rel,dd⟩:=vS I.cO e;obtain ⟨w',hw,uT⟩:=j6.some_of (v:=v) (o:=(aeb xs k).map (·.2)) (by rw [l];exact rel.val k);obtain ⟨p,hp,GV⟩:=z9.mp hw;refine wpAny_getItem_heap (aeI hu) (pS I.cO eb) dd hp ?_;rw [GV];exact h w' _ (I.tok _) uT
def Y4 {Q:Value->adN->Prop} (hu:A.units+1<ad0) (I:Inv X pins σ H s) (g:j7 H a y o) (ry:RelV y u) (h: ∀s',Inv X pins σ H s'->Q (.bool o.isSome) s'):
  wpAny (adR X.prog X.w) A (ad6 .In u (.ref a)) Q E s:=by
 rcases g with ⟨kvs,k,e,ey,l⟩|⟨kvs,k,b,e,ey,eb,l⟩
 ·subst ey;obtain ⟨z,hd,vs,rel,dd⟩:=nP I.cO e;refine wpAny_in_of (nI ry) hd dd.mapOf ?_;rw [<-(rel.val k).jF, <-l];exact h _ (I.tok _)
 ·subst ey;cases (show u=Value.ref b from ry);obtain ⟨z,hd,xs,rel,dd⟩:=vS I.cO e;refine wpAny_in_heap (aeI hu) (pS I.cO eb) hd dd ?_;have q:=(rel.val k).jF;rw [rn] at q;rw [<-q, <-l];exact h _ (I.tok _)
def NM {Q:Value->adN->Prop} (hu:A.units+1<ad0) (I:Inv X pins σ H s) (g:j7 H a y o) (ry:RelV y u) (h: ∀s',Inv X pins σ H s'->Q (.bool (!o.isSome)) s'):
  wpAny (adR X.prog X.w) A (ad6 .NotIn u (.ref a)) Q E s:=by
 rcases g with ⟨kvs,k,e,ey,l⟩|⟨kvs,k,b,e,ey,eb,l⟩
 ·subst ey;obtain ⟨z,hd,vs,rel,dd⟩:=nP I.cO e;refine wpAny_notIn_of (nI ry) hd dd.mapOf ?_;rw [<-(rel.val k).jF, <-l];exact h _ (I.tok _)
 ·subst ey;cases (show u=Value.ref b from ry);obtain ⟨z,hd,xs,rel,dd⟩:=vS I.cO e;refine wpAny_notIn_heap (aeI hu) (pS I.cO eb) hd dd ?_;have q:=(rel.val k).jF;rw [rn] at q;rw [<-q, <-l];exact h _ (I.tok _)
def qM {h':adO} {t':Nat} {ob:HO} (I:Inv X pins σ H s) (mu:OY (H a)) (hs:Heap.SameBut a s.heap h') (he: ∃q,h'.get? a=some q) (new:dZ X.prog X.w (upd H a ob) h' a ob):
  Inv X pins σ (upd H a ob) {s with heap:=h',toks:=t'}:=
 I.write (x:=a) (e:=a) mu (.inl rfl) (λb q hb z=>(hs.2 b hb).trans z) he new
def D1 {P:adT} {w:adQ} {H':Hp} {h':adO} {kvs:List (Key×V)} {vs:List (Key×Value)} (z:kvs.length<=sizeLine) (hd:(a==ad4)=false) (rel:KV kvs vs) (dd:h'.DictOf (cI P w) a vs):
  dZ P w H' h' a (.dK kvs):=⟨z,hd,vs,rel,dd⟩
def Ht {H':Hp} {Q:Unit->adN->Prop} (hu:A.units+1<ad0) (I:Inv X pins σ H s) (g:oq H a y v H') (ry:RelV y u) (rv:RelV v r) (h: ∀s',Inv X pins σ H' s'->Q () s'):
  wpAny (adR X.prog X.w) A (setItem (.ref a) u r) Q E s:=by
 rcases g with ⟨kvs,k,e,ey,l,eH⟩|⟨kvs,k,b,e,ey,eb,l,eH⟩
 ·subst ey eH;obtain ⟨z,hd,vs,rel,dd⟩:=Ft I.cO e;have hz:vs.length<=sizeLine:=by rw [<-rel.length];exact z
  have hl:(putK kvs k v).length<=sizeLine:=by have:=kh kvs k v;omega
  refine wpAny_setItem_pairs (hsz:=hz) (nI ry) dd λh' HZ hs=>h _ ?_;have he: ∃q,h'.get? a=some q:=let ⟨q,_,_,hq,_⟩:=HZ;⟨q,hq⟩
  exact qM I (by rw [e];exact fy) hs he (D1 hl hd (rel.put k rv) HZ)
 ·subst ey eH;cases (show u=Value.ref b from ry);obtain ⟨z,hd,xs,rel,dd⟩:=K7 I.cO e;have hz:xs.length<=sizeLine:=by rw [<-Paired.length rel];exact z
  have hl:(putK kvs k v).length<=sizeLine:=by have:=kh kvs k v;omega
  refine wpAny_setItem_heap (hsz:=hz) (aeI hu) (pS I.cO eb) dd λh' HZ hs=>h _ ?_;obtain ⟨q,es,ep,hq,h2,h3,h4,_,h5⟩:=HZ;refine qM I (by rw [e];exact fy) hs ⟨q,hq⟩ ⟨hl,hd,_,(rel.put k eb rv).keeps λc ys ec=>?_,q,es,ep,hq,h2,h3,h4,h5⟩;rw [bL (cg ec e (λz=>nomatch z))];exact ec
end
section
variable {X:Cx} {pins:List (Addr×Obj)} {σ:St} {H:Hp} {s:adN} {a:Addr} {kvs:List (Key×V)} {k:Key} {u:Value} {A:adW} {E:Value->adN->Prop}
def OS {v:V} {more:List Value} {Q:Value->adN->Prop} (I:Inv X pins σ H s) (e:H a=some (.dK kvs)) (ry:RelV (kV k) u) (l:cx kvs k=some v) (hm:more= []∨∃x,more= [x])
  (h: ∀w' s',Inv X pins σ (upd H a (.dK (gX kvs k))) s'->RelV v w'->Q w' s'):wpAny (adR X.prog X.w) A (call (.builtin "dict.pop") (.ref a::u::more)) Q E s:=by
 obtain ⟨z,hd,vs,rel,dd⟩:=Ft I.cO e;obtain ⟨w',hw,uT⟩:=j6.some_of (v:=v) (o:=aei vs k) (by rw [<-l];exact rel.val k);have hp:(keyPart u).isSome=true:=by
  cases k with
  |inl i=>obtain ⟨t,q⟩:=(show∃t,u=Value.int i t from ry);subst q;rfl
  |inr x=>obtain ⟨t,q⟩:=(show∃t,u=Value.str x t from ry);subst q;rfl
 have ha:ael "dict.pop" ⟨.ref a::u::more,[]⟩:=by
  rcases hm with q|⟨x,q⟩
  ·subst q;exact PySem.F.args_dict_pop_2 _ _
  ·subst q;exact lN _ _ _
 refine aeJ eQ dd.typeIs mz ha (meets_dict_pop_there (cI X.prog X.w) a (nI ry) more hm hp)
  ⟨vs,w',dd,by rw [<-rel.length];exact z,hw,λh' HZ hs=>h w' _ ?_ uT⟩
 have he: ∃q,h'.get? a=some q:=let ⟨q,_,_,hq,_⟩:=HZ;⟨q,hq⟩
 exact qM I (by rw [e];exact fy) hs he (D1 (aV (BL kvs k) z) hd (rel.drop k) HZ)
def QX {r:Value} {Q:Value->adN->Prop} (I:Inv X pins σ H s) (e:H a=some (.dK kvs)) (ry:RelV (kV k) u) (l:cx kvs k=none) (h: ∀s',Inv X pins σ H s'->Q r s'):
  wpAny (adR X.prog X.w) A (call (.builtin "dict.pop") [.ref a,u,r]) Q E s:=by
 obtain ⟨z,hd,vs,rel,dd⟩:=Ft I.cO e;have hn:aei vs k=none:=j6.none_of (by rw [<-l];exact rel.val k);have hp:(keyPart u).isSome=true:=by
  cases k with
  |inl i=>obtain ⟨t,q⟩:=(show∃t,u=Value.int i t from ry);subst q;rfl
  |inr x=>obtain ⟨t,q⟩:=(show∃t,u=Value.str x t from ry);subst q;rfl
 exact aeJ eQ dd.typeIs mz (lN _ _ _) (meets_dict_pop_default (cI X.prog X.w) a (nI ry) hd hp r) ⟨vs,dd,hn,h _ (I.tok _)⟩
def U0 {Q:Value->adN->Prop} (I:Inv X pins σ H s) (e:Rd H a (.dK kvs)) (h: ∀t s',Inv X pins σ H s'->Q (.int kvs.length t) s'):wpAny (adR X.prog X.w) A (call (.builtin "len") [.ref a]) Q E s:=by
 obtain ⟨z,hd,vs,rel,dd⟩:=nP I.cO e;refine call_len_dict hd dd (by rw [<-rel.length];rw [adY] at z;omega) ?_;rw [<-rel.length];exact h _ _ (I.tok _)
end
def Rc (i:adS):Prop:= ∀ov iv,ae2 i false ov iv=operate [ov,iv] (aeG ov iv)
def Er {prog:adT} {w:adQ} {A:adW} {E:Value->adN->Prop} {s:adN} {env:Env} {value slice:adS} {pos:Pos} {T id:String} {Q:Value->adN->Prop}
  (hl:typeLookup (.type T) "__getitem__" =pure (some (.builtin id))) (hs:Rc slice)
  (h:wpAny (adR prog w) A (eval value env) (λo dG=>wpAny (adR prog w) A (eval slice env) (λi kF=>kF.TypeIs o T/\wpAny (adR prog w) A (aeG o i) Q E kF) E dG) E s):
  wpAny (adR prog w) A (eval (.Subscript value slice pos) env) Q E s:=by
 refine Subscript_ (wpAny_mono h (λo dG pU=>wpAny_mono pU (λi kF vC=>?_) λ_ _ x=>x) λ_ _ x=>x);obtain ⟨hT,vC⟩:=vC;unfold subscriptTail;refine adP ?_;rw [getitemInPython_of_ne hT.not_modules];refine adP (wpAny_specialOf hT hl ?_);have fin:wpAny (adR prog w) A (ae2 slice false o i) (λr F6=>wpAny (adR prog w) A (letTemporaryGo value o r>>=λ_=>pure r) Q E F6) E kF:=by
  rw [hs o i];exact wpAny_operating (wpAny_mono vC (λr F6 tu=>adP (wpAny_letTemporaryGo (adV tu))) λ_ _ x=>x)
 first
  |exact adV (adP fin)
  |exact adP (adV (adP fin))
  |exact adP fin
def BO {X:Cx} {pins:List (Addr×Obj)} {σ:St} {H:Hp} {s:adN} {a:Addr} {y:V} {o:Option V} (I:Inv X pins σ H s) (g:j7 H a y o):s.TypeIs (.ref a) "dict" :=by
 rcases g with ⟨kvs,k,e,_,_⟩|⟨kvs,k,b,e,_,_,_⟩
 ·obtain ⟨_,_,vs,_,dd⟩:=nP I.cO e;exact dd.typeIs
 ·obtain ⟨_,_,xs,_,dd⟩:=vS I.cO e;exact dd.typeIs
def Sl (td ty:TE):TE:=λσ H Q=>td σ H λx H1=>ty σ H1 λy H2=> ∃a v,x= .ref a/\j7 H2 a y (some v)/\Q v H2
def WT (ty td:TE):TE:=λσ H Q=>ty σ H λy H1=>td σ H1 λx H2=> ∃a o,x= .ref a/\j7 H2 a y o/\Q (.bl o.isSome) H2
def Mi (ty td:TE):TE:=λσ H Q=>ty σ H λy H1=>td σ H1 λx H2=> ∃a o,x= .ref a/\j7 H2 a y o/\Q (.bl (!o.isSome)) H2
def SD (td ty tv:TE):TS:=λD σ H=>tv σ H λv H1=>td σ H1 λx H2=>ty σ H2 λy H3=> ∃a H4,x= .ref a/\oq H3 a y v H4/\D.nx σ H4
section
variable {X:Cx} {o i e value:adS} {pos pos' mU:Pos} {td ty tv:TE}
def oH (hu:X.A.units+1<ad0) (ho:PE X o td) (hi:PE X i ty) (hs:Rc i):PE X (.Subscript o i pos) (Sl td ty):=by
 intro pins s σ H Q I h;refine Er wH.lookup hs (dJ (ho pins s σ H _ I h) λu s1 ⟨x,H1,I1,rx,q1⟩=>dJ (hi pins s1 σ H1 _ I1 q1) λiv s2 ⟨y,H2,I2,ry,a,v,ex,g,q2⟩=>?_);subst ex;obtain rfl:u=Value.ref a:=rx;exact ⟨BO I2 g,Hu hu I2 g ry λw' s3 I3 uT=>⟨v,H2,I3,uT,q2⟩⟩
def PD (hu:X.A.units+1<ad0) (hi:PE X i ty) (ho:PE X o td):PC X .In i o (WT ty td):=by
 intro pins s σ H Q I h;refine dJ (hi pins s σ H _ I h) λiv s1 ⟨y,H1,I1,ry,q1⟩=>dJ (ho pins s1 σ H1 _ I1 q1) λu s2 ⟨x,H2,I2,rx,a,ov,ex,g,q2⟩=>?_;subst ex;obtain rfl:u=Value.ref a:=rx;exact Y4 hu I2 g ry λs3 I3=>⟨.bl ov.isSome,H2,I3,rfl,q2⟩
def oI (hu:X.A.units+1<ad0) (hi:PE X i ty) (ho:PE X o td):PC X .NotIn i o (Mi ty td):=by
 intro pins s σ H Q I h;refine dJ (hi pins s σ H _ I h) λiv s1 ⟨y,H1,I1,ry,q1⟩=>dJ (ho pins s1 σ H1 _ I1 q1) λu s2 ⟨x,H2,I2,rx,a,ov,ex,g,q2⟩=>?_;subst ex;obtain rfl:u=Value.ref a:=rx;exact NM hu I2 g ry λs3 I3=>⟨.bl (!ov.isSome),H2,I3,rfl,q2⟩
def l6 (hu:X.A.units+1<ad0) (ho:PE X o td) (hi:PE X i ty) (hv:PE X value tv) (hs:aeo value (some (.Subscript o i pos')) pos.line X.env=pure false):
  PS X (.Assign [.Subscript o i pos'] value pos) (SD td ty tv):=by
 intro pins s σ H D I h;refine wpAny_Assign_Subscript (dJ (hv pins s σ H _ I h) λr s1 ⟨v,H1,I1,rv,q1⟩=>dJ (ho pins s1 σ H1 _ I1 q1) λu s2 ⟨x,H2,I2,rx,q2⟩=>dJ (hi pins s2 σ H2 _ I2 q2) λiv s3 ⟨y,H3,I3,ry,a,H4,ex,g,q3⟩=>?_) hs;subst ex;obtain rfl:u=Value.ref a:=rx;exact Ht hu I3 g ry rv λs4 I4=>⟨σ,H4,I4,q3⟩
end
def BN {P:adT} {w:adQ} {H:Hp} (h:adO) (hb:ad4<h.objs.size):dZ P w H (h.push {cls:= .type "dict",data:= .dict #[]}) h.objs.size (.dK []):=
 ⟨bv _,beq_eq_false_iff_ne.mpr (fz (bH hb)),[], .nil,Heap.DictOf.new h⟩
def K8 {P:adT} {w:adQ} {H:Hp} (h:adO) (hb:ad4<h.objs.size):dZ P w H (h.push {cls:= .type "dict",data:= .dict #[]}) h.objs.size (.dT []):=
 ⟨bv _,beq_eq_false_iff_ne.mpr (fz (bH hb)),[], .nil,_, #[],0,Heap.get?_push_size _ rfl,⟨rfl,rfl,rfl⟩,rfl,rfl,eT⟩
def Pd:TE:=λ_ H Q=> ∀p,H p=none->Q (.ref p) (upd H p (.dK []))
def Pc:TE:=λ_ H Q=> ∀p,H p=none->Q (.ref p) (upd H p (.dT []))
section
variable {X:Cx} {pos:Pos}
def u5:PE X (.Dict [] [] pos) Pd:=λpins s σ H Q I h=>
 wpAny_Dict_empty ⟨.ref s.heap.objs.size,_,I.laid (a:=s.heap.objs.size) (o:= .dK []) (t':=s.toks) (λ_ _ q=>Heap.get?_push_of_some _ q) (ay _) (BN s.heap I.big),rfl,h _ (I.cO.fresh (ay _))⟩
def A2:PE X (.Dict [] [] pos) Pc:=λpins s σ H Q I h=>
 wpAny_Dict_empty ⟨.ref s.heap.objs.size,_,I.laid (a:=s.heap.objs.size) (o:= .dT []) (t':=s.toks) (λ_ _ q=>Heap.get?_push_of_some _ q) (ay _) (K8 s.heap I.big),rfl,h _ (I.cO.fresh (ay _))⟩
end
def CS:List (TE×TE)->St->Hp->(List (V×V)->Hp->Prop)->Prop
 | [],_,H,Q=>Q [] H
 |(tk,tv)::r,σ,H,Q=>tk σ H λx H1=>tv σ H1 λy H2=>CS r σ H2 λps H3=>Q ((x,y)::ps) H3
abbrev VV:List (V×V)->List (Value×Value)->Prop:=Paired λp q=>RelV p.1 q.1/\RelV p.2 q.2
def Wk (X:Cx) (pos:Pos) (keys:List (Option adS)) (values:List adS) (Mb:List (TE×TE)):Prop:=
 ∀(pins:List (Addr×Obj)) (s:adN) (σ:St) (H:Hp) (Q:List (V×V)->Hp->Prop),Inv X pins σ H s->CS Mb σ H Q->
  wpAny (adR X.prog X.w) X.A (evalPairs (pairTrees keys values X.env pos)) (λvs s'=> ∃ps H',Inv X pins σ H' s'/\VV ps vs/\Q ps H') X.xe s
def MI {X:Cx} {pos:Pos}:Wk X pos [] [] []:=λpins s σ H Q I h=>pairTrees_nil_walk ⟨[],H,I, .nil,h⟩
def Jm {X:Cx} {pos:Pos} {k v:adS} {ks:List (Option adS)} {vs:List adS} {tk tv:TE} {Mb:List (TE×TE)} (hk:PE X k tk) (hv:PE X v tv) (hr:Wk X pos ks vs Mb):
  Wk X pos (some k::ks) (v::vs) ((tk,tv)::Mb):=λpins s σ H Q I h=>
 pairTrees_cons_walk (dJ (hk pins s σ H _ I h) λu s1 ⟨x,H1,I1,rx,q1⟩=>dJ (hv pins s1 σ H1 _ I1 q1) λw2 s2 ⟨y,H2,I2,ry,q2⟩=>
  dJ (hr pins s2 σ H2 _ I2 q2) λws s3 ⟨ps,H3,I3,rel,q3⟩=>⟨(x,y)::ps,H3,I3, .cons ⟨rx,ry⟩ rel,q3⟩)
def ma (kvs more:List (Key×V)):List (Key×V):=more.foldl (λacc kv=>putK acc kv.1 kv.2) kvs
def KV.merge: ∀{more:List (Key×V)} {rs:List (Key×Value)} {kvs:List (Key×V)} {vs:List (Key×Value)},KV more rs->KV kvs vs->KV (ma kvs more) (merged vs rs):=by
 intro more rs kvs vs r;unfold KV at r;induction r generalizing kvs vs with
 |nil=>intro q;exact q
 | @cons p q ps qs h t ih=>
  intro r0;have e:KV (putK kvs p.1 p.2) (stored vs q.1 q.2):=by
   have:=r0.put p.1 h.2;rw [<-h.1];exact this
  exact ih e
def ph: ∀(more kvs:List (Key×V)),(ma kvs more).length<=kvs.length+more.length
 | [],kvs=>by show kvs.length<=kvs.length+0;omega
 |p::r,kvs=>by
  have h1:=ph r (putK kvs p.1 p.2);have h2:=kh kvs p.1 p.2;show (ma (putK kvs p.1 p.2) r).length<=_;rw [aR];omega
def vZ {P:adT} {w:adQ}: ∀{kvs:List (Key×V)} {ws:List (Value×Value)},VV (kvs.map λkv=>(kV kv.1,kv.2)) ws->∃rs,Carries (cI P w) ws rs/\KV kvs rs
 | [],_,r=>by rw [gR] at r;cases r;exact ⟨[],fy, .nil⟩
 |p::kvs,_,r=>by
  rw [be] at r;cases r with
  | @cons a b as bs h t=>
   obtain ⟨rs,c,q⟩:=vZ (P:=P) (w:=w) t;obtain ⟨b1,b2⟩:=b;exact ⟨(p.1,b2)::rs,⟨nI h.1,rfl,c⟩, .cons ⟨rfl,h.2⟩ q⟩
def Sk (Mb:List (TE×TE)):TE:=λσ H Q=> ∀p,H p=none->CS Mb σ (upd H p (.dK [])) λps H2=>H2 p=some (.dK [])/\∃kvs:List (Key×V),ps=kvs.map (λkv=>(kV kv.1,kv.2))/\kvs.length<=15/\Q (.ref p) (upd H2 p (.dK (ma [] kvs)))
def MM {X:Cx} {pos:Pos} {keys:List (Option adS)} {values:List adS} {Mb:List (TE×TE)} (h:Wk X pos keys values Mb) (hall:keys.all (·.isSome)=true) (hl:keys.length=values.length) (h0:keys≠ [])
  (QB:keys.length<=15):PE X (.Dict keys values pos) (Sk Mb):=by
 intro pins s σ H Q I q;have hn:=I.cO.fresh (ay s.heap.objs.size);have I1:=I.laid (a:=s.heap.objs.size) (o:= .dK []) (h':=s.heap.push {cls:= .type "dict",data:= .dict #[]}) (t':=s.toks) (λ_ _ q=>Heap.get?_push_of_some _ q) (ay _) (BN s.heap I.big);refine wpAny_Dict_walk (knd:=cI X.prog X.w) hall hl h0 QB (dJ (h pins _ σ _ _ I1 (q _ hn)) λws s2 ⟨ps,H2,I2,rel,e,kvs,ep,lk,q2⟩=>?_);subst ep;obtain ⟨rs,c,rk⟩:=vZ (P:=X.prog) (w:=X.w) rel;obtain ⟨z,hd,vs0,r0,dd⟩:=Ft I2.cO e;cases r0;refine ⟨rs,c,dd,λh' HZ hs=>⟨.ref s.heap.objs.size,_,?_,rfl,q2⟩⟩;have hz:(ma [] kvs).length<=sizeLine:=by
  have h1:=ph kvs [];rw [cU] at h1;rw [adY];omega
 have he: ∃q,h'.get? s.heap.objs.size=some q:=let ⟨q,_,_,hq,_⟩:=HZ;⟨q,hq⟩
 exact qM I2 (by rw [e];exact fy) hs he (D1 hz hd (rk.merge .nil) HZ)
structure M1 (X:Cx) (o:adS) (m:Str) (apos:Pos) (e:adS) (fi:Pos):Prop where
 base:aeg o m X.env (eval o X.env)=eval o X.env
 US:((ad2 fi (adU [e] X.env)).all (λx=>!x.1)&&(aeq fi (aer [] X.env)).all (λx=>x.1.isSome)
  &&decide (([e]:List adS).length+([]:List aed).length+(if ([]:List aed).isEmpty then 0 else 1)<30))=true
 line:(apos.endLine==fi.line)=true
 trees:ad2 fi (adU [e] X.env)= [(false,eval e X.env)]
structure M2 (X:Cx) (o:adS) (m:Str) (apos:Pos) (e f:adS) (fi:Pos):Prop where
 base:aeg o m X.env (eval o X.env)=eval o X.env
 US:((ad2 fi (adU [e,f] X.env)).all (λx=>!x.1)&&(aeq fi (aer [] X.env)).all (λx=>x.1.isSome)
  &&decide (([e,f]:List adS).length+([]:List aed).length+(if ([]:List aed).isEmpty then 0 else 1)<30))=true
 line:(apos.endLine==fi.line)=true
 trees:ad2 fi (adU [e,f] X.env)= [(false,eval e X.env),(false,eval f X.env)]
def Ve (H:Hp) (a:Addr):Prop:=(∃kvs,Rd H a (.dK kvs))∨∃kvs,Rd H a (.dT kvs)
def zm {X:Cx} {pins:List (Addr×Obj)} {σ:St} {H:Hp} {s:adN} {a:Addr} (I:Inv X pins σ H s) (d:Ve H a):
  s.TypeIs (.ref a) "dict"/\(∀b,Value.ref a= .ref b->∃ob,s.heap.get? b=some ob/\ob.dict=none)/\(a==ad4)=false:=by
 rcases d with ⟨kvs,e⟩|⟨kvs,e⟩
 ·obtain ⟨_,hd,vs,_,dd⟩:=nP I.cO e;refine ⟨dd.typeIs,λb q=>?_,hd⟩;cases q;obtain ⟨ob,_,_,h1,h2,_⟩:=dd;exact ⟨ob,h1,h2.2.1⟩
 ·obtain ⟨_,hd,xs,_,dd⟩:=vS I.cO e;refine ⟨dd.typeIs,λb q=>?_,hd⟩;cases q;obtain ⟨ob,_,_,h1,h2,_⟩:=dd;exact ⟨ob,h1,h2.2.1⟩
section
variable {X:Cx} {pins:List (Addr×Obj)} {σ:St} {H:Hp} {s:adN} {a:Addr} {y d:V} {u r:Value} {o:Option V} {A:adW} {E:Value->adN->Prop}
def QY {Q:Value->adN->Prop} (hu:A.units+1<ad0) (I:Inv X pins σ H s) (g:j7 H a y o) (ry:RelV y u) (rd:RelV d r) (h: ∀w' s',Inv X pins σ H s'->RelV (o.getD d) w'->Q w' s'):
  wpAny (adR X.prog X.w) A (call (.builtin "dict.get") [.ref a,u,r]) Q E s:=by
 rcases g with ⟨kvs,k,e,ey,l⟩|⟨kvs,k,b,e,ey,eb,l⟩
 ·subst ey;obtain ⟨z,hd,vs,rel,dd⟩:=nP I.cO e;refine aeJ mX dd.typeIs zS (yt _ _ _) (meets_dict_get_default (cI X.prog X.w) a (nI ry) hd r) ⟨_,dd.mapOf,h _ _ (I.tok _) ?_⟩;rw [l];exact (rel.val k).getD rd
 ·subst ey;cases (show u=Value.ref b from ry);obtain ⟨z,hd,xs,rel,dd⟩:=vS I.cO e;refine aeJ mX dd.typeIs zS (yt _ _ _) (meetsH_dict_get_default (aev (cI X.prog X.w)) a b hd r) ⟨aeI hu,k,xs,pS I.cO eb,dd,h _ _ (I.tok _) ?_⟩;rw [l];exact (rel.val k).getD rd
end
def Pe (td ty tx:TE):TE:=λσ H Q=>td σ H λx H1=> ∃a,x= .ref a/\Ve H1 a/\ty σ H1 λy H2=>tx σ H2 λz H3=> ∃o,j7 H3 a y o/\Q (o.getD z) H3
def Pb (td ty:TE):TE:=λσ H Q=>td σ H λx H1=> ∃a,x= .ref a/\Ve H1 a/\ty σ H1 λy H2=> ∃kvs k v,H2 a=some (.dK kvs)/\y=kV k/\cx kvs k=some v/\Q v (upd H2 a (.dK (gX kvs k)))
def Pa (td ty tx:TE):TE:=λσ H Q=>td σ H λx H1=> ∃a,x= .ref a/\Ve H1 a/\ty σ H1 λy H2=>tx σ H2 λz H3=> ∃kvs k,H3 a=some (.dK kvs)/\y=kV k/\
 (∀v,cx kvs k=some v->Q v (upd H3 a (.dK (gX kvs k))))/\(cx kvs k=none->Q z H3)
section
variable {X:Cx} {o e f:adS} {apos fi:Pos} {td ty tx:TE}
def qD (hu:X.A.units+1<ad0) (ho:PE X o td) (he:PE X e ty) (hf:PE X f tx) (m:M2 X o "get" apos e f fi):PE X (.Call (.Attribute o "get" apos) [e,f] [] fi) (Pe td ty tx):=by
 intro pins s σ H Q I h;refine aeK m.base m.US m.line ib mX PySem.F.type_dict_get (dJ (ho pins s σ H _ I h) λu s1 ⟨x,H1,I1,rx,a,ex,d,q1⟩=>?_);subst ex;obtain rfl:u=Value.ref a:=rx;obtain ⟨t1,t2,_⟩:=zm I1 d;refine ⟨t1,t2,?_⟩;rw [m.trees];refine Calls.callWith_builtin rfl (Calls.evalArgs_plain (Calls.spliced_cons (dJ (he pins s1 σ H1 _ I1 q1) λiv s2 ⟨y,H2,I2,ry,q2⟩=>
  Calls.spliced_cons (dJ (hf pins s2 σ H2 _ I2 q2) λfv s3 ⟨z,H3,I3,rz,ov,g,q3⟩=>Calls.spliced_nil ?_))))
 exact QY hu I3 g ry rz λw' s4 I4 uT=>⟨_,H3,I4,uT,q3⟩
def Jv (ho:PE X o td) (he:PE X e ty) (m:M1 X o "pop" apos e fi):PE X (.Call (.Attribute o "pop" apos) [e] [] fi) (Pb td ty):=by
 intro pins s σ H Q I h;refine aeK m.base m.US m.line ib eQ mW (dJ (ho pins s σ H _ I h) λu s1 ⟨x,H1,I1,rx,a,ex,d,q1⟩=>?_);subst ex;obtain rfl:u=Value.ref a:=rx;obtain ⟨t1,t2,_⟩:=zm I1 d;refine ⟨t1,t2,?_⟩;rw [m.trees];refine Calls.callWith_builtin rfl (Calls.evalArgs_plain (Calls.spliced_cons (dJ (he pins s1 σ H1 _ I1 q1) λiv s2 ⟨y,H2,I2,ry,kvs,k,v,ea,ey,l,q2⟩=>Calls.spliced_nil ?_)));subst ey;exact OS I2 ea ry l (.inl rfl) λw' s3 I3 uT=>⟨v,_,I3,uT,q2⟩
def Ju (ho:PE X o td) (he:PE X e ty) (hf:PE X f tx) (m:M2 X o "pop" apos e f fi):PE X (.Call (.Attribute o "pop" apos) [e,f] [] fi) (Pa td ty tx):=by
 intro pins s σ H Q I h;refine aeK m.base m.US m.line ib eQ mW (dJ (ho pins s σ H _ I h) λu s1 ⟨x,H1,I1,rx,a,ex,d,q1⟩=>?_);subst ex;obtain rfl:u=Value.ref a:=rx;obtain ⟨t1,t2,_⟩:=zm I1 d;refine ⟨t1,t2,?_⟩;rw [m.trees];refine Calls.callWith_builtin rfl (Calls.evalArgs_plain (Calls.spliced_cons (dJ (he pins s1 σ H1 _ I1 q1) λiv s2 ⟨y,H2,I2,ry,q2⟩=>
  Calls.spliced_cons (dJ (hf pins s2 σ H2 _ I2 q2) λfv s3 ⟨z,H3,I3,rz,kvs,k,ea,ey,q3,q4⟩=>Calls.spliced_nil ?_))))
 subst ey;cases l:cx kvs k with
 |some v=>exact OS I3 ea ry l (.inr ⟨fv,rfl⟩) λw' s4 I4 uT=>⟨v,_,I4,uT,q3 v l⟩
 |none=>exact QX I3 ea ry l λs4 I4=>⟨z,H3,I4,rz,q4 l⟩
end
end L2
namespace L2
open PySem PySem.Spec PyProof.Rows
section
variable {X:Cx} {pins:List (Addr×Obj)} {σ:St} {H:Hp} {s:adN} {h':adO}
def Inv.Ma {t':Nat} {ch:List Addr} (I:Inv X pins σ H s) (k: ∀b o,b∉ch->s.heap.get? b=some o->h'.get? b=some o) (hf: ∀b∈ch,tG X pins H b):Inv X pins σ H {s with heap:=h',toks:=t'}:=by
 have Ot: ∀b u,H b=some u->b∉ch:=λb u e z=>by
  have q:=(hf b z).1;rw [q] at e;cases e
 refine I.step (g':=s.gens) (d':=s.drawn) (ch:=ch) (λb hb=>⟨(hf b hb).2.2.2.1,(hf b hb).2.1,(hf b hb).2.2.2.2.1,(hf b hb).2.2.2.2.2⟩) (λb o _ _ hc e _=>k b o hc e) (λb o _ _ hc e _=>⟨o.slots,k b o hc e⟩)
  (λ_ _ _ _ n=>n) (λb o hc e=>⟨o,k b o hc e⟩) (λ_ _ e=>e) (λ_ _ _ e=>e) (λb ps e=>⟨#[],by rw [e];simp⟩) (λm hm=>?_) (λb u e=>?_) I.bare
 ·obtain ⟨o,es,ep,ho,r⟩:=hm;exact ⟨o,es,ep,k _ o (λz=>(hf _ z).2.1 rfl) ho,r⟩
 ·refine (I.cO b u e).gD (λc v hc q=>k c v ?_ q) (λ_ q=>q) λ_ _ q=>q;rcases hc with z|z
  ·rw [z];exact Ot b u e
  ·exact Ot c _ z
def Inv.oz {t':Nat} {ch:List Addr} {T:Addr} {ob:HO} (I:Inv X pins σ H s) (k: ∀b o,b∉ch->s.heap.get? b=some o->h'.get? b=some o) (hf: ∀b∈ch,tG X pins H b) (hT:s.heap.objs.size<=T)
  (new:dZ X.prog X.w (upd H T ob) h' T ob):Inv X pins σ (upd H T ob) {s with heap:=h',toks:=t'}:=by
 have hn:H T=none:=I.cO.fresh hT;have Ot: ∀b u,H b=some u->b∉ch:=λb u e z=>by
  have q:=(hf b z).1;rw [q] at e;cases e
 refine I.step (g':=s.gens) (d':=s.drawn) (ch:=ch) (λb hb=>⟨(hf b hb).2.2.2.1,(hf b hb).2.1,(hf b hb).2.2.2.2.1,(hf b hb).2.2.2.2.2⟩) (λb o _ _ hc e _=>k b o hc e) (λb o _ _ hc e _=>⟨o.slots,k b o hc e⟩)
  (λb o _ e n=>?_) (λb o hc e=>⟨o,k b o hc e⟩) (λb xs e=>?_) (λb o u e=>?_) (λb ps e=>⟨#[],?_⟩) (λm hm=>?_) (λb u e=>?_) I.bare
 ·rw [bL (bH (bu (Heap.lt_size e) hT))];exact n
 ·rw [bL (aG e hn)];exact e
 ·rw [bL (aG e hn)];exact e
 ·rw [bL (aG e hn),e];simp
 ·obtain ⟨o,es,ep,ho,r⟩:=hm;exact ⟨o,es,ep,k _ o (λz=>(hf _ z).2.1 rfl) ho,r⟩
 ·by_cases hb:b=T
  ·subst hb;rw [ak] at e;cases e;exact new
  ·rw [bL hb] at e;refine (I.cO b u e).gD (λc v hc q=>k c v ?_ q) (λc q=>by rw [bL (aG q hn)];exact q) λc xs q=>by rw [bL (aG q hn)];exact q
   rcases hc with z|z
   ·rw [z];exact Ot b u e
   ·exact Ot c _ z
def Inv.lock {d:Addr} {u:HO} (I:Inv X pins σ H s) (h:H d=some u) (mu:OY (some u)): ∃od,Inv X pins σ (upd H d (.lQ od u)) s:=by
 have x:=I.cO d u h;have ex: ∃od,s.heap.get? d=some od:=by
  cases u with
  |lst xs=>obtain ⟨_,_,_,_,e⟩:=x;exact ⟨_,e⟩
  |dK kvs=>obtain ⟨_,_,_,_,o,_,_,e,_⟩:=x;exact ⟨o,e⟩
  |dT kvs=>obtain ⟨_,_,_,_,o,_,_,e,_⟩:=x;exact ⟨o,e⟩
  |set S n=>obtain ⟨o,_,_,_,e,_⟩:=x;exact ⟨o,e⟩
  |ins C dx fs=>obtain ⟨_,_,_,e,_⟩:=x;exact ⟨_,e⟩
  |ext φ=>obtain ⟨_,⟨_,e⟩,_⟩:=x;exact ⟨_,e⟩
  |_=>exact dj mu
 obtain ⟨od,e⟩:=ex;have new:dZ X.prog X.w (upd H d (.lQ od u)) s.heap d (.lQ od u):=by
  refine ⟨e,x.gD (λb v _ q=>q) (λb q=>?_) λb xs q=>?_⟩
  ·rw [bL (λz=>by rw [z,h] at q;cases q;exact mu)];exact q
  ·rw [bL (λz=>by rw [z,h] at q;cases q;exact mu)];exact q
 exact ⟨od,I.write (x:=d) (e:=d) (t':=s.toks) (h':=s.heap) (by rw [h];exact mu) (.inl rfl) (λb v _ q=>q) ⟨od,e⟩ new⟩
def Inv.E5 {d:Addr} {u:HO} (I:Inv X pins σ H s) (h:H d=some u) (mu:OY (some u)): ∀o' u',X.Re d≠some (.lQ o' u'):=λo' u' e=>by
 have q:=I.base.vL d o' u' e;rw [h] at q;cases q;exact mu
def Inv.unlock {d:Addr} {od:Obj} {u:HO} (I:Inv X pins σ H s) (h:H d=some (.lQ od u)) (hn: ∀o' u',X.Re d≠some (.lQ o' u')):Inv X pins σ (upd H d u) s:=by
 have Rv: ∀b o,H b=some o->(∀o' u',o≠ .lQ o' u')->b≠d:=λb o e gp z=>by
  rw [z,h] at e;cases e;exact gp _ _ rfl
 have neN: ∀b,H b=none->b≠d:=λb e z=>by rw [z,h] at e;cases e
 refine ⟨I.ok,I.os,I.bare,⟨I.base.keep,I.base.slot,λb o e n hx=>?_,I.base.there,λb xs e=>?_,λb o x e=>?_,λb ps e=>?_⟩,I.loc,I.cell,?_,λx c e=>?_,λp hp=>?_,λb o e=>?_,I.len⟩
 ·rw [bL (neN b (I.base.free b o e n hx))];exact I.base.free b o e n hx
 ·have q:=I.base.uu b xs e;rw [bL (Rv b _ q (λ_ _ z=>nomatch z))];exact q
 ·have q:=I.base.vL b o x e;rw [bL (λz=>by rw [z] at e;exact hn _ _ e)];exact q
 ·obtain ⟨m,q⟩:=I.base.yE b ps e;exact ⟨m,by rw [bL (Rv b _ q (λ_ _ z=>nomatch z))];exact q⟩
 ·rw [bL (neN _ I.free)];exact I.free
 ·rw [bL (neN c (I.lm x c e))];exact I.lm x c e
 ·obtain ⟨e,n,r⟩:=I.pin p hp;exact ⟨e,by rw [bL (neN _ n)];exact n,r⟩
 ·by_cases hb:b=d
  ·rw [hb,ak] at e;cases e;rw [hb];obtain ⟨_,x⟩:=I.cO d _ h;exact x.gD (λc v _ q=>q) (λc q=>by rw [bL (Rv c _ q (λ_ _ z=>nomatch z))];exact q) λc xs q=>by rw [bL (Rv c _ q (λ_ _ z=>nomatch z))];exact q
  ·rw [bL hb] at e;exact (I.cO b o e).gD (λc v _ q=>q) (λc q=>by rw [bL (Rv c _ q (λ_ _ z=>nomatch z))];exact q) λc xs q=>by rw [bL (Rv c _ q (λ_ _ z=>nomatch z))];exact q
end
def Se (t:TS):TS:=λD σ H=> ∃d u,H d=some u/\OY (some u)/\∀od,t ⟨λeX H'=>H' d=some (.lQ od u)/\D.nx eX (upd H' d u),λv H'=>H' d=some (.lQ od u)/\D.rt v (upd H' d u),λeX H'=>H' d=some (.lQ od u)/\D.bk eX (upd H' d u),λeX H'=>H' d=some (.lQ od u)/\D.ct eX (upd H' d u)⟩ σ (upd H d (.lQ od u))
section
variable {X:Cx}
def ER {st:adZ} {t:TS} (h:PS X st t):PS X st (Se t):=by
 intro pins s σ H D I hw;obtain ⟨d,u,hd,mu,hw⟩:=hw;obtain ⟨od,I1⟩:=I.lock hd mu;refine dJ (h pins s σ _ _ I1 (hw od)) λf s1 q=>?_;cases f with
 |next=>obtain ⟨eX,H',I2,e,q⟩:=q;exact ⟨eX,_,I2.unlock e (I.E5 hd mu),q⟩
 |brk=>obtain ⟨eX,H',I2,e,q⟩:=q;exact ⟨eX,_,I2.unlock e (I.E5 hd mu),q⟩
 |cont=>obtain ⟨eX,H',I2,e,q⟩:=q;exact ⟨eX,_,I2.unlock e (I.E5 hd mu),q⟩
 |ret v=>obtain ⟨x,eX,H',I2,r,e,q⟩:=q;exact ⟨x,eX,_,I2.unlock e (I.E5 hd mu),r,q⟩
def Jr {tg:adS} {pins:List (Addr×Obj)} {σ:St} {H:Hp} {s:adN} {R:It->Hp->Prop} {J:It} {tn:Nat->adO->Prop} {tk:Nat} (I:Inv X pins σ H s) (o:Obj)
  (T:Turn X.prog X.w X.K tg J [s.heap.objs.size] s.heap.objs.size tn) (st:tn 0 (s.heap.push o)) (q:R J H):Wl X pins σ tg R (.ref s.heap.objs.size) {s with heap:=s.heap.push o,toks:=tk}:=by
 refine ⟨s.heap.objs.size,[s.heap.objs.size],tn,J,H,rfl,I.kept λb ob e=>Heap.get?_push_of_some _ e,T,st,λb hb=>?_,q⟩;have e:b=s.heap.objs.size:=by simpa using hb
 subst e;exact I.DU (ay _) (I.cO.fresh (ay _))
end
def Itc (lo c:Int) (n:Nat):It:=⟨λi _=>i<n,λi H x H'=>H'=H/\x= .int (lo+(i:Nat)*c),λi _=>n<=i⟩
def Ae {P:adT} {w:adQ} {K:aa} {tg:adS} (it:Addr) (lo c:Int) (n:Nat):Turn P w K tg (Itc lo c n) [it] it (λi h=>aeZ h it (lo+(i:Nat)*c) ((n:Int)-(i:Nat)) c) where
 mem:=by simp
 obj:=λi h st b hb=>by
  have e:b=it:=by simpa using hb
  subst e;exact ⟨_,st,λv z=>nomatch z⟩
 keep:=λi h h' st k=>k it (by simp) _ st
 item:=by
  intro X hP hw hK hc i pins s σ H E I hf st hg;subst hP hw hK;obtain ⟨f0,f1,f2,f3,f4,f5⟩:=hf it (by simp);have W:=Walks.range (prog:=X.prog) (w:=X.w) (I.ok.hd hc) it lo c n;refine W.item i s _ _ hg st λv h' tk hv wy kk=>?_;obtain ⟨t,rfl⟩:=hv;have I1:Inv X pins σ H {s with heap:=h',toks:=tk}:=I.turned (λb o hb e=>kk b o (by simpa using hb) e) f0 f1 f3 f4 f5;exact ⟨_,rfl,Kc (s:={s with heap:=h',toks:=tk}) (n:= "range_iterator") wy rfl rfl (by decide) ⟨.int (lo+(i:Nat)*c),H,I1,⟨t,rfl⟩,⟨rfl,rfl⟩,wy,λb hb=>(hf b hb).1⟩⟩
 done:=by
  intro X hP hw hK hc i pins s σ H E I hf st hg;subst hP hw hK;obtain ⟨f0,f1,f2,f3,f4,f5⟩:=hf it (by simp);exact wpAny_pyNext_range_end (I.ok.hd hc) st (by have:n<=i:=hg;omega) λh' eb=>⟨rfl,I.turned (t':=s.toks) (λb o hb e=>eb b o hb e) f0 f1 f3 f4 f5⟩
 self:=λA i s Q E st h=>wpAny_pyIter_rangeiter st h
def Ze (i j c:Int) (n:Nat):Prop:=c≠0/\c.natAbs<1073741824/\Builtin.Range.small i j c=true/\Builtin.Range.rangeSize i j c=n
def Ts (ta:TA):TI:=λσ H R=>ta σ H λvs H1=> ∃(i j c:Int) (n:Nat),vs= [.int i, .int j, .int c]/\Ze i j c n/\R (Itc i c n) H1
section
variable {X:Cx} {tg:adS}
def xN {a b c:adS} {ta:TA} {p pos:Pos} (hg:Gl X "range") (hm:X.mg "range" =none) (ha:PA X [a,b,c] ta)
  (hs:adU [a,b,c] X.env=(false,eval a X.env)::adU [b,c] X.env:=by rfl) (hpl:(ad2 pos (adU [b,c] X.env)).any (·.1)=false:=by rfl):
  PI X tg (.Call (.Name "range" p) [a,b,c] [] pos) (Ts ta):=by
 intro pins s σ H R I h;refine Call_ (mj I hg hm boot_range (de (dJ (ha pos pins s σ H _ I h) λus s1 ⟨vs,H1,I1,r1,q1⟩=>?_) hs hpl));obtain ⟨i,j,k,n,e,⟨c0,c1,c2,c3⟩,q⟩:=q1;subst e;cases r1 with
 |cons r rr=>
  cases rr with
  |cons r' rr=>
   cases rr with
   |cons r'' rr=>
    cases rr;obtain ⟨t,rfl⟩:=r;obtain ⟨t',rfl⟩:=r';obtain ⟨t'',rfl⟩:=r'';refine call_range_3 c0 ?_ (.inl (zT c1));refine wpAny_pyIter_range (IsRange.new ..) c2 ?_;have I2:Inv X pins σ H1 {s1 with heap:=s1.heap.push {cls:= .type "range",data:= .fields #[.int i t, .int j t', .int k t'']}}:=I1.kept (t':=s1.toks) λb o e=>Heap.get?_push_of_some _ e;refine Jr (tk:=s1.toks) I2 _ (Ae _ i k n) ?_ q;have e1:i+((0:Nat):Int)*k=i:=by simp
    have e2:(n:Int)-((0:Nat):Int)=Builtin.Range.rangeSize i j k:=by rw [c3];simp
    show aeZ _ _ (i+((0:Nat):Int)*k) ((n:Int)-((0:Nat):Int)) k;rw [e1,e2];exact Heap.get?_push_size _ rfl
end
def P4 {κ:Type} {kvs:List (κ×V)} {vs:List (κ×Value)} (h:KV kvs vs): ∀{i:Nat} {k:κ} {v:V},kvs[i]?=some (k,v)->∃u,vs[i]?=some (k,u)/\RelV v u:=by
 unfold KV at h;induction h with
 |nil=>intro i k v e;simp at e
 | @cons a b PZ PY r t ih=>
  intro i k v e;cases i with
  |zero=>
   simp only [Ch,fR] at e;subst e;refine ⟨b.2,?_,r.2⟩;simp only [Ch];exact congrArg some (Prod.ext r.1.symm rfl)
  |succ j=>
   simp only [Cj] at e⊢;exact ih e
def Jh {k:Key} {u:Value} (h:qI k u=true):RelV (kV k) u:=by
 rcases dR h with ⟨i,t,rfl,rfl⟩|⟨x,t,rfl,rfl⟩
 ·exact ⟨t,rfl⟩
 ·exact ⟨t,rfl⟩
section
variable {X:Cx} {pins:List (Addr×Obj)} {σ:St} {H:Hp} {s:adN} {d:Addr} {o:Obj}
def Inv.QC {kvs:List (Key×V)} (I:Inv X pins σ H s) (h:H d=some (.lQ o (.dK kvs))):
  (d==ad4)=false/\s.heap.get? d=some o/\o.ExactDict/\∃(es:Array aeL) (ep:Nat) (vs:List (Key×Value)),o.data= .dict es ep/\es.size=kvs.length/\KV kvs vs/\s.heap.DictAt (cI X.prog X.w) d vs ep:=by
 obtain ⟨hd,z,hs,vs,kv,o',es,ep,ho,hx,LL,r⟩:=I.cO d _ h;rw [hd] at ho;cases ho;refine ⟨hs,hd,hx,es,ep,vs,LL,?_,kv,o,es,hd,hx,LL,r⟩;have l1:=r.2.1.length;have l2:kvs.length=vs.length:=Paired.length kv;rw [g6] at l1;omega
end
def Iti (d:Addr) (o:Obj) (kvs:List (Key×V)):It:=
 ⟨λi H=>H d=some (.lQ o (.dK kvs))/\i<kvs.length,λi H x H'=> ∃T k v,kvs[i]?=some (k,v)/\x= .ref T/\H T=none/\H'=upd H T (.tup [kV k,v]),λi H=>H d=some (.lQ o (.dK kvs))/\kvs.length<=i⟩
def Fu {o:Obj} {es OP:Array aeL} {ep OQ:Nat} (h:o.data= .dict es ep) (h':o.data= .dict OP OQ):OP=es/\OQ=ep:=by
 rw [h] at h';cases h';exact ⟨rfl,rfl⟩
section
variable {P:adT} {w:adQ} {K:aa} {tg:adS} {d:Addr} {o:Obj} {es:Array aeL} {ep:Nat}
def CI {kvs:List (Key×V)} {elts:List adS} {kk:Nat} {mU:Pos} (it:Addr) (ZX:o.data= .dict es ep):
  Turn P w K (.Tuple elts kk mU) (Iti d o kvs) [it] it (λi h=> ∃ok ov,IsItemIter h it d i kvs.length ep ok ov) where
 mem:=by simp
 obj:=λi h st b hb=>by
  have e:b=it:=by simpa using hb
  subst e;obtain ⟨ok,ov,e⟩:=st;exact ⟨_,e,λv z=>nomatch z⟩
 keep:=λi h h' st k=>let ⟨ok,ov,e⟩:=st;⟨ok,ov,k it (by simp) _ e⟩
 item:=by
  intro X hP hw hK hc i pins s σ H E I hf st hg;subst hP hw hK;obtain ⟨hd,hi⟩:=hg;obtain ⟨hs,Z7,hx,OP,OQ,vs,LL,hsz,kv,hm⟩:=I.QC hd;obtain ⟨rfl,rfl⟩:=Fu ZX LL;obtain ⟨⟨k,v⟩,Fj⟩: ∃p,kvs[i]?=some p:=⟨kvs[i],ao hi⟩
  obtain ⟨u,hu,ru⟩:=P4 kv Fj;have hl:kvs.length=vs.length:=Paired.length kv;obtain ⟨ok,ov,he⟩:=st;rw [hl] at he;have jd:it<s.heap.objs.size:=Heap.lt_size he;refine wpAny_pyNext_items_item he hm hu λkey h' Qr ho hT hz hk=>?_;refine ⟨_,rfl,wpAny_letOwnedTupleGo_items (s:={s with heap:=h'}) ho λwD Qx sb=>?_⟩;have Kb:wD.get? s.heap.objs.size=some {cls:= .type "tuple",data:= .seq #[key,u]}:=(sb.2 _ (gZ jd)).trans hT;have new:dZ X.prog X.w (upd H s.heap.objs.size (.tup [kV k,v])) wD s.heap.objs.size (.tup [kV k,v]):=
   ⟨by show 2<=sizeLine;decide,[key,u], .cons (Jh (show qI k key=true from Qr)) (.cons ru .nil),⟨_,Kb,rfl,_,rfl⟩⟩
  have I1:Inv X pins σ (upd H s.heap.objs.size (.tup [kV k,v])) {s with heap:=wD}:=
   I.oz (t':=s.toks) (ch:= [it]) (λb ob hb e=>(sb.2 b (by simpa using hb)).trans (hk b ob (by simpa using hb) e)) hf (ay _) new
  refine ⟨.ref s.heap.objs.size,_,I1,rfl,⟨_,k,v,Fj,rfl,I.cO.fresh (ay _),rfl⟩,⟨key,u,?_⟩,λb hb=>?_⟩
  ·rw [hl];exact Qx
  ·have e:b=it:=by simpa using hb
   rw [e,bL (bH jd)];exact (hf it (by simp)).1
 done:=by
  intro X hP hw hK hc i pins s σ H E I hf st hg;subst hP hw hK;obtain ⟨hd,hi⟩:=hg;obtain ⟨f0,f1,f2,f3,f4,f5⟩:=hf it (by simp);obtain ⟨hs,Z7,hx,OP,OQ,vs,LL,hsz,kv,hm⟩:=I.QC hd;obtain ⟨rfl,rfl⟩:=Fu ZX LL;have hl:kvs.length=vs.length:=Paired.length kv;obtain ⟨ok,ov,he⟩:=st;rw [hl] at he;exact wpAny_pyNext_items_end (I.ok.hd hc) he hm (Em (by omega)) λh' eb=>⟨rfl,I.turned (t':=s.toks) (λb ob hb e=>eb b ob hb e) f0 f1 f3 f4 f5⟩
 self:=λA i s Q E st h=>let ⟨_,_,e⟩:=st;PySem.W.kcp_self e h
end
def Qa (td:TE):TI:=λσ H R=>td σ H λx H1=> ∃d o kvs,x= .ref d/\H1 d=some (.lQ o (.dK kvs))/\R (Iti d o kvs) H1
section
variable {X:Cx} {tg e:adS} {td:TE} {apos fi:Pos}
def AX {elts:List adS} {kk:Nat} {mU:Pos} (he:PE X e td) (hbase:aeg e "items" X.env (eval e X.env)=eval e X.env:=by rfl) (hline:(apos.endLine==fi.line)=true:=by rfl):
  PI X (.Tuple elts kk mU) (.Call (.Attribute e "items" apos) [] [] fi) (Qa td):=by
 intro pins s σ H R I h;refine aeK (T:= "dict") (id:= "dict.items") hbase rfl hline F.plainAttrs_dict F.slot_dict_items F.type_dict_items (dJ (he pins s σ H _ I h) λu s1 ⟨x,H1,I1,rx,d,o,kvs,ex,hd,q⟩=>?_);subst ex;obtain rfl:u=Value.ref d:=rx;obtain ⟨hs,Z7,hx,es,ep,vs,LL,hsz,kv,hm⟩:=I1.QC hd;have hl:kvs.length=vs.length:=Paired.length kv;refine ⟨hm.dictOf.typeIs,hm.dictOf.mapOf.noDict,?_⟩;have I2:Inv X pins σ H1 {s1 with heap:=s1.heap.push {cls:= .type "dict_items",data:= .fields #[.ref d]}}:=I1.kept (t':=s1.toks) λb ob q=>Heap.get?_push_of_some _ q;have fin:wpAny (adR X.prog X.w) X.A (pyIter (.ref s1.heap.objs.size)) (Wl X pins σ (.Tuple elts kk mU) R) X.xe {s1 with heap:=s1.heap.push {cls:= .type "dict_items",data:= .fields #[.ref d]}}:=by
  refine wpAny_pyIter_items (d:=d) (knd:=cI X.prog X.w) ⟨_,Heap.get?_push_size _ rfl,rfl,rfl⟩ (hm.push _) (Jr (tk:=s1.toks) I2 _ (CI _ LL) ⟨.none, .none,?_⟩ q);rw [hl];exact Heap.get?_push_size _ rfl
 show wpAny _ _ (aeT fi (.builtin "dict.items") [.ref d] [] []) _ X.xe s1;exact method_meetsIn F.slot_dict_items F.entry_dict_items rfl (qd ⟨rfl,hm.dictOf.typeIs,F.args_dict_items_1 _,_,meets_dict_items (cI X.prog X.w) d hs,⟨vs,hm.dictOf⟩,fin⟩)
end
def Ite (K:aa) (a:Addr):It:=
 ⟨λi H=> ∃(xs:List V) (x:V),iF K H a xs/\xs[i]?=some x,λi H v H'=> ∃T x,v= .ref T/\H T=none/\H'=upd H T (.tup [.int (i:Nat),x])/\∀xs,iF K H a xs->xs[i]?=some x,λi H=> ∃xs:List V,iF K H a xs/\xs.length<=i⟩
def FX {P:adT} {w:adQ} {K:aa} {elts:List adS} {kk:Nat} {mU:Pos} (a e it:Addr):
  Turn P w K (.Tuple elts kk mU) (Ite K a) [e,it] e (λi h=>(∃old,aee h e it ((i:Nat):Int) old)/\h.IsListIter it a i/\e≠it) where
 mem:=by simp
 obj:=λi h st b hb=>by
  obtain ⟨⟨old,he⟩,⟨o,ho,hc,hd⟩,_⟩:=st;have e':b=e∨b=it:=by simpa using hb
  rcases e' with z|z
  ·rw [z];exact ⟨_,he,λv q=>nomatch q⟩
  ·rw [z];exact ⟨o,ho,λv q=>by rw [hd] at q;cases q⟩
 keep:=λi h h' st k=>let ⟨⟨old,he⟩,hi,gp⟩:=st;⟨⟨old,k e (by simp) _ he⟩,hi.at λo q=>k it (by simp) o q,gp⟩
 item:=by
  intro X hP hw hK hc i pins s σ H E I hf st hg;subst hP hw hK;obtain ⟨⟨old,he⟩,hit,gp⟩:=st;obtain ⟨xs,x,hq,hx⟩:=hg;obtain ⟨its,rv,p,hz⟩:=I.list hq;obtain ⟨u,hu,ru⟩:=rv.get hx;have Ni:e<s.heap.objs.size:=Heap.lt_size he;have Yr:it<s.heap.objs.size:=by obtain ⟨_,q,_⟩:=hit;exact Heap.lt_size q
  refine wpAny_pyNext_enum_item he hit p.isList (x:=u) (by simpa using hu) gp λh' ho Qt hT hsz hk=>?_;refine ⟨_,rfl,afe (s:={s with heap:=h',toks:=s.toks+1}) ho λwD Qx sb=>?_⟩;have Kb:wD.get? s.heap.objs.size=some {cls:= .type "tuple",data:= .seq #[.int i s.toks,u]}:=(sb.2 _ (gZ Ni)).trans hT;have new:dZ X.prog X.w (upd H s.heap.objs.size (.tup [.int (i:Nat),x])) wD s.heap.objs.size (.tup [.int (i:Nat),x]):=
   ⟨by show 2<=sizeLine;decide,[.int i s.toks,u], .cons ⟨_,rfl⟩ (.cons ru .nil),⟨_,Kb,rfl,_,rfl⟩⟩
  have I1:Inv X pins σ (upd H s.heap.objs.size (.tup [.int (i:Nat),x])) {s with heap:=wD,toks:=s.toks+1}:=
   I.oz (ch:= [e,it]) (λb ob hb q=>(sb.2 b (λz=>hb (by simp [z]))).trans (hk b ob (λz=>hb (by simp [z])) (λz=>hb (by simp [z])) q)) hf (ay _) new
  refine ⟨.ref s.heap.objs.size,_,I1,rfl,⟨_,x,rfl,I.cO.fresh (ay _),rfl,λys hy=>by rw [I.nH hy hq];exact hx⟩,⟨⟨u,?_⟩,Qt.at λo q=>(sb.2 it (fz gp)).trans q,gp⟩,λb hb=>?_⟩
  ·have e1:((i+1:Nat):Int)=(i:Int)+1:=by omega
   rw [e1];exact Qx
  ·have OG:b<s.heap.objs.size:=by
    have e':b=e∨b=it:=by simpa using hb
    rcases e' with z|z
    ·rw [z];exact Ni
    ·rw [z];exact Yr
   rw [bL (bH OG)];exact (hf b hb).1
 done:=by
  intro X hP hw hK hc i pins s σ H E I hf st hg;subst hP hw hK;obtain ⟨⟨old,he⟩,hit,gp⟩:=st;obtain ⟨xs,hq,hx⟩:=hg;obtain ⟨its,rv,p,hz⟩:=I.list hq;obtain ⟨f0,f1,f2,f3,f4,f5⟩:=hf it (by simp);have hl:=rv.length;exact wpAny_pyNext_enum_end (I.ok.hd hc) he hit p.isList (by simp;omega) λh' eb=>⟨rfl,I.turned (t':=s.toks) (λb o hb q=>eb b o hb q) f0 f1 f3 f4 f5⟩
 self:=λA i s Q E st h=>let ⟨⟨_,he⟩,_⟩:=st;ae4 he h
def Tv (K:aa) (ta:TA):TI:=λσ H R=>ta σ H λvs H1=> ∃a xs,vs= [.ref a]/\iF K H1 a xs/\R (Ite K a) H1
def EX {X:Cx} {e:adS} {ta:TA} {p pos mU:Pos} {elts:List adS} {kk:Nat} (hg:Gl X "enumerate") (hm:X.mg "enumerate" =none) (ha:PA X [e] ta) (hs:adU [e] X.env= [(false,eval e X.env)]:=by rfl):
  PI X (.Tuple elts kk mU) (.Call (.Name "enumerate" p) [e] [] pos) (Tv X.K ta):=by
 intro pins s σ H R I h;refine Call_ (mj I hg hm boot_enumerate (de (dJ (ha pos pins s σ H _ I h) λus s1 ⟨vs,H1,I1,r1,q1⟩=>?_) hs rfl));obtain ⟨a,xs,ex,hq,q⟩:=q1;subst ex;cases r1 with
 |cons r rr=>
  cases rr;cases r;obtain ⟨its,rv,p',hz⟩:=I1.list hq;refine call_enumerate_list p'.isList λh' he hit hsz hk=>ae4 he ?_;have I2:Inv X pins σ H1 {s1 with heap:=h'}:=I1.kept (t':=s1.toks) hk;refine ⟨s1.heap.objs.size+1,[s1.heap.objs.size+1,s1.heap.objs.size],_,_,H1,rfl,I2,FX a (s1.heap.objs.size+1) s1.heap.objs.size,⟨⟨.none,he⟩,hit,wv _⟩,λb hb=>?_,q⟩;have e':b=s1.heap.objs.size+1∨b=s1.heap.objs.size:=by simpa using hb
  have hle:s1.heap.objs.size<=b:=by
   rcases e' with z|z
   ·rw [z];exact dU _ _
   ·rw [z];exact ay _
  exact I1.DU hle (I1.cO.fresh hle)
def HD:aeD "zip" =some (.type "zip"):=by decide+kernel
def Itz (K:aa) (a b:Addr):It:=
 ⟨λi H=> ∃(xs ys:List V) (x y:V),iF K H a xs/\iF K H b ys/\xs[i]?=some x/\ys[i]?=some y,
  λi H v H'=> ∃T x y,v= .ref T/\H T=none/\H'=upd H T (.tup [x,y])/\(∀xs,iF K H a xs->xs[i]?=some x)/\∀ys,iF K H b ys->ys[i]?=some y,
  λi H=> ∃xs ys:List V,iF K H a xs/\iF K H b ys/\(xs.length<=i∨ys.length<=i)⟩
def Iu {P:adT} {w:adQ} {K:aa} {elts:List adS} {kk:Nat} {mU:Pos} {a b z TI TO i1 i2:Addr} (D:ZipApart z TI TO i1 i2 a b):
  Turn P w K (.Tuple elts kk mU) (Itz K a b) [z,TI,TO,i1,i2] z (λi h=>IsZip h z TI TO .none/\IsPair h TI (.ref i1) (.ref i2)/\(∃x y,IsPair h TO x y)/\h.IsListIter i1 a i/\h.IsListIter i2 b i) where
 mem:=by simp
 obj:=λi h st c hc=>by
  obtain ⟨hz,Ka,⟨x,y,LN⟩,⟨o1,e1,_,d1⟩,⟨o2,e2,_,d2⟩⟩:=st;have e':c=z∨c=TI∨c=TO∨c=i1∨c=i2:=by simpa using hc
  rcases e' with q|q|q|q|q
  ·rw [q];exact ⟨_,hz,λv q=>nomatch q⟩
  ·rw [q];exact ⟨_,Ka,λv q=>nomatch q⟩
  ·rw [q];exact ⟨_,LN,λv q=>nomatch q⟩
  ·rw [q];exact ⟨o1,e1,λv q=>by rw [d1] at q;cases q⟩
  ·rw [q];exact ⟨o2,e2,λv q=>by rw [d2] at q;cases q⟩
 keep:=λi h h' st k=>by
  obtain ⟨hz,Ka,⟨x,y,LN⟩,h1,h2⟩:=st;exact ⟨k z (by simp) _ hz,k TI (by simp) _ Ka,⟨x,y,k TO (by simp) _ LN⟩,h1.at λo q=>k i1 (by simp) o q,h2.at λo q=>k i2 (by simp) o q⟩
 item:=by
  intro X hP hw hK hc i pins s σ H E I hf st hg;subst hP hw hK;obtain ⟨hz,Ka,⟨x0,y0,LN⟩,h1,h2⟩:=st;obtain ⟨xs,ys,x,y,RE,RD,hx,hy⟩:=hg;obtain ⟨its,rv,p,_⟩:=I.list RE;obtain ⟨vz,VC,p2,_⟩:=I.list RD;obtain ⟨u,hu,ru⟩:=rv.get hx;obtain ⟨u2,GT,ru2⟩:=VC.get hy;have ZM:z<s.heap.objs.size:=Heap.lt_size hz;refine wpAny_pyNext_zip_item D hz Ka LN h1 h2 p.isList p2.isList (x:=u) (y:=u2) (by simpa using hu) (by simpa using GT) λh' z' TO' h1' h2' hT hsz hk=>?_;refine ⟨_,rfl,wpAny_letOwnedTupleGo_zip (s:={s with heap:=h'}) z' λwD z'' sb=>?_⟩;have Kb:wD.get? s.heap.objs.size=some {cls:= .type "tuple",data:= .seq #[u,u2]}:=(sb.2 _ (gZ ZM)).trans hT;have new:dZ X.prog X.w (upd H s.heap.objs.size (.tup [x,y])) wD s.heap.objs.size (.tup [x,y]):=
   ⟨by show 2<=sizeLine;decide,[u,u2], .cons ru (.cons ru2 .nil),⟨_,Kb,rfl,_,rfl⟩⟩
  have I1:Inv X pins σ (upd H s.heap.objs.size (.tup [x,y])) {s with heap:=wD}:=
   I.oz (t':=s.toks) (ch:= [z,TI,TO,i1,i2]) (λc o hb q=>(sb.2 c (λq'=>hb (by simp [q']))).trans (hk c o (λq'=>hb (by simp [q'])) (λq'=>hb (by simp [q'])) (λq'=>hb (by simp [q'])) (λq'=>hb (by simp [q'])) q)) hf (ay _) new
  refine ⟨.ref s.heap.objs.size,_,I1,rfl,⟨_,x,y,rfl,I.cO.fresh (ay _),rfl,λl hl=>by rw [I.nH hl RE];exact hx,λl hl=>by rw [I.nH hl RD];exact hy⟩,⟨z'',?_,⟨u,u2,?_⟩,?_,?_⟩,λc V2=>?_⟩
  ·exact (sb.2 _ D.TIz).trans (hk _ _ D.TIz D.TITO D.TIi1 D.TIi2 Ka)
  ·exact (sb.2 _ D.TOz).trans TO'
  ·exact h1'.at λo q=>(sb.2 _ D.i1z).trans q
  ·exact h2'.at λo q=>(sb.2 _ D.i2z).trans q
  ·have jd:c<s.heap.objs.size:=by
    have e':c=z∨c=TI∨c=TO∨c=i1∨c=i2:=by simpa using V2
    rcases e' with q|q|q|q|q
    ·rw [q];exact ZM
    ·rw [q];exact Heap.lt_size Ka
    ·rw [q];exact Heap.lt_size LN
    ·rw [q];obtain ⟨_,e1,_⟩:=h1;exact Heap.lt_size e1
    ·rw [q];obtain ⟨_,e2,_⟩:=h2;exact Heap.lt_size e2
   rw [bL (bH jd)];exact (hf c V2).1
 done:=by
  intro X hP hw hK hc i pins s σ H E I hf st hg;subst hP hw hK;obtain ⟨hz,Ka,⟨x0,y0,LN⟩,h1,h2⟩:=st;obtain ⟨xs,ys,RE,RD,Yx⟩:=hg;obtain ⟨its,rv,p,_⟩:=I.list RE;obtain ⟨vz,VC,p2,_⟩:=I.list RD;have l1:=rv.length;have l2:=VC.length;have he:its.toArray[i]?=none∨vz.toArray[i]?=none:=by
   rcases Yx with q|q
   ·exact .inl (by simp;omega)
   ·exact .inr (by simp;omega)
  exact wpAny_pyNext_zip_end (I.ok.hd hc) D hz Ka LN h1 h2 p.isList p2.isList he λh' hk=>⟨rfl,I.Ma (t':=s.toks) (ch:= [z,TI,TO,i1,i2]) (λc o hb q=>
   hk c o (λq'=>hb (by simp [q'])) (λq'=>hb (by simp [q'])) (λq'=>hb (by simp [q'])) (λq'=>hb (by simp [q'])) q) hf⟩
 self:=λA i s Q E st h=>wpAny_pyIter_zip st.1 h
def XM (K:aa) (ta:TA):TI:=λσ H R=>ta σ H λvs H1=> ∃a b xs ys,vs= [.ref a, .ref b]/\iF K H1 a xs/\iF K H1 b ys/\R (Itz K a b) H1
def Jq {X:Cx} {e e2:adS} {ta:TA} {p pos mU:Pos} {elts:List adS} {kk:Nat} (hg:Gl X "zip") (hm:X.mg "zip" =none) (ha:PA X [e,e2] ta)
  (hs:adU [e,e2] X.env=(false,eval e X.env)::adU [e2] X.env:=by rfl) (hpl:(ad2 pos (adU [e2] X.env)).any (·.1)=false:=by rfl):
  PI X (.Tuple elts kk mU) (.Call (.Name "zip" p) [e,e2] [] pos) (XM X.K ta):=by
 intro pins s σ H R I h;refine Call_ (mj I hg hm HD (de (dJ (ha pos pins s σ H _ I h) λus s1 ⟨vs,H1,I1,r1,q1⟩=>?_) hs hpl));obtain ⟨a,b,xs,ys,ex,RE,RD,q⟩:=q1;subst ex;cases r1 with
 |cons r rr=>
  cases rr with
  |cons r' rr=>
   cases rr;cases r;cases r';obtain ⟨its,rv,p1,_⟩:=I1.list RE;obtain ⟨vz,VC,p2,_⟩:=I1.list RD;have la:a<s1.heap.objs.size:=p1.lt;have lb:b<s1.heap.objs.size:=p2.lt;refine call_zip_2 p1.isList p2.isList λh' hz Ka LN h1 h2 hsz hk=>wpAny_pyIter_zip hz ?_;have I2:Inv X pins σ H1 {s1 with heap:=h'}:=I1.kept (t':=s1.toks) hk;refine ⟨s1.heap.objs.size+4,[s1.heap.objs.size+4,s1.heap.objs.size+2,s1.heap.objs.size+3,s1.heap.objs.size,s1.heap.objs.size+1],_,_,H1,rfl,I2,Iu (PySem.W.ktu_apart s1.heap.objs.size a b la lb),⟨hz,Ka,⟨_,_,LN⟩,h1,h2⟩,λc V2=>?_,q⟩;have e':c=s1.heap.objs.size+4∨c=s1.heap.objs.size+2∨c=s1.heap.objs.size+3∨c=s1.heap.objs.size∨c=s1.heap.objs.size+1:=by simpa using V2
   have hle:s1.heap.objs.size<=c:=by
    rcases e' with z|z|z|z|z
    ·rw [z];exact dU _ _
    ·rw [z];exact dU _ _
    ·rw [z];exact dU _ _
    ·rw [z];exact ay _
    ·rw [z];exact dU _ _
   exact I1.DU hle (I1.cO.fresh hle)
end L2
namespace L2
open PySem PySem.Spec PyProof.Rows
abbrev KOf {K:aa} {h:adO} (_:K.In h):aa:=K
end L2
namespace L2
open PySem PySem.Spec PyProof.Rows
def inClass (s:adZ) (j:Nat):adZ:=match s with
 | .ClassDef _ _ _ body _ _ _ _ _ _ _=>body.getD j (.Pass ⟨0,0,0,0⟩)
 |_=> .Pass ⟨0,0,0,0⟩
def km (s:adZ):Arguments:=match s with
 | .FunctionDef _ a _ _ _ _ _ _ _ _=>a
 |_=>{posonlyargs:= [],args:= [],vararg:=none,kwonlyargs:= [],kw_defaults:= [],kwarg:=none,defaults:= []}
def jA (s:adZ):List adZ:=match s with
 | .FunctionDef _ _ b _ _ _ _ _ _ _=>b
 |_=> []
def aS (s:adZ):ad1:=match s with
 | .FunctionDef _ _ _ _ _ _ sc _ _ _=>sc
 |_=>{kind:= .function,names:= [],isGenerator:=false,isCoroutine:=false}
abbrev Lm:HM:=λ_ _ _ _ _ _=>False
abbrev E0:XK:=λ_ _ _=>False
def E2 {X:Cx}:Passes Lm X E0:=λ_ _ _ _ _ _ _ h=>h.elim
structure Lk (K:aa) (x qual:Str) (st:adZ) (f:Addr) (fd:ad7):Prop where
 ex: ∃(oc:Value) (od:Option Addr) (kV doc pm:Value) (an:Option Addr) (dD ct:Value) (wA:Array (Option Value)),
  fd=fe x qual (km st) (jA st) (aS st) .none kV doc pm an dD ct/\K.lookup f=some ⟨oc,od, .func fd,wA⟩/\j0 K dD qual=true
 kp:eL K (.ref f)=true
section
variable {P:adT} {w:adQ} {K:aa} {mg:Str->Option Value} {base:adO}
def Lk.ok {x qual:Str} {st:adZ} {f:Addr} {fd:ad7} {N ps:List Str} {k:Nat} {sp:Sp} (F:Lk K x qual st f fd) (S:bh N ps (aS st)) (len: ∀vs H Q E,sp vs H Q E->vs.length=ps.length)
  (J7: ∀(dD:Value) (A:adW) (outer:List Env) (s:adN) (H:Hp) (vs:List V) (Q:VK) (E:XK),iu k (A.deeper (envOfC qual (aS st) s.heap.objs.size f dD))->sp vs H Q E->
   ∃t,HI (Hv Lm P w K mg base N qual (aS st) f dD A outer s H E).Lz (jA st) t/\t {nx:=λ_ H'=>Q .fY H',rt:=Q} (start N vs) H):kO P w K mg base Lm (k+1) f fd ps sp:=by
 obtain ⟨oc,od,kV,doc,pm,an,dD,ct,wA,rfl,lk,G0⟩:=F.ex;refine UL lk G0 S len λA outer s H vs Q E hr LD=>?_;obtain ⟨t,h,q⟩:=J7 dD A outer s H vs Q E hr LD;exact ⟨t,h.Lz,q⟩
def Lk.binds {x qual:Str} {st:adZ} {f:Addr} {fd:ad7} {ps:List Str} (F:Lk K x qual st f fd)
  (h: ∀(kV doc pm:Value) (an:Option Addr) (dD ct:Value) (us:List Value),us.length=ps.length->bindArgs (fe x qual (km st) (jA st) (aS st) .none kV doc pm an dD ct) ⟨us,[]⟩=pure (ps.zip us)):Binds K fd ps []:=by
 obtain ⟨oc,od,kV,doc,pm,an,dD,ct,wA,rfl,lk,G0⟩:=F.ex;exact .all (h kV doc pm an dD ct)
def zt {x qual:Str} {st:adZ} {f:Addr} {oc:Value} {od an:Option Addr} {wA:Array (Option Value)} {kV doc pm dD ct:Value} (l:K.lookup f=some ⟨oc,od, .func (fe x qual (km st) (jA st) (aS st) .none kV doc pm an dD ct),wA⟩)
  (c:j0 K dD qual=true) (k:eL K (.ref f)=true):Lk K x qual st f (fe x qual (km st) (jA st) (aS st) .none kV doc pm an dD ct):=⟨⟨oc,od,kV,doc,pm,an,dD,ct,wA,rfl,l,c⟩,k⟩
end
def jP {A:adW} {k:Nat} (hr:iu k A):A.units+1<ad0:=cy (Ib (by decide:1<=64) _) hr.units
section
variable {X:Cx}
def pv (i:Nat) {x:Str} {pos:Pos} (hN:X.N[i]?=some x:=by rfl) (hv:U7 X.env.scope x:=by first|exact LQ rfl|exact FR (LQ rfl)|exact FR (FR rfl)) (hd:(x==("__debug__" :Str))=false:=by decide)
  (G0:(x==("__classdict__" :Str))=false:=by decide):PE X (.Name x pos) (yF i):=Py hN hv hd G0
def HC:jZ X (.builtin "len") (λxs H Q=> ∃a kvs,xs= [V.ref a]/\H a=some (.dK kvs)/\Q (.int kvs.length) H):=by
 intro pins s σ H xs us Q I r h;obtain ⟨a,kvs,rfl,ha,q⟩:=h;obtain ⟨u,rfl,ru⟩:=vals1 r;cases ru;exact U0 I (.inl ha) λt s' I'=>⟨.int kvs.length,H,I',⟨t,rfl⟩,q⟩
end
def tq {A B:Prop} (h:B):if false=true then A else B:=by
 rw [if_neg aJ];exact h
def o0 {A B:Prop} (h:A):if true=true then A else B:=by
 rw [if_pos rfl];exact h
def aB (H H':Hp):Prop:= ∀b o,H b=some o->H' b=some o
def aB.refl (H:Hp):aB H H:=λ_ _ h=>h
def aB.trans {H H1 H2:Hp} (a:aB H H1) (b:aB H1 H2):aB H H2:=λc o h=>b c o (a c o h)
def aB.free {H H':Hp} (e:aB H H') {l:Addr} (h:H' l=Rj):H l=Rj:=by
 cases q:H l with
 |none=>rfl
 |some o=>
  rw [e l o q] at h;cases h
def aB.seq {K:aa} {H H':Hp} {a:Addr} {xs:List V} (e:aB H H') (h:iF K H a xs):iF K H' a xs:=by
 rcases h with (h|⟨o,h⟩)|h
 ·exact .inl (.inl (e _ _ h))
 ·exact .inl (.inr ⟨o,e _ _ h⟩)
 ·exact .inr h
section
variable {κ:Type} [DecidableEq κ]
def Ip {kvs:List (κ×V)} {k:κ} (h:cx kvs k=none): ¬k∈kvs.map (·.1):=by
 intro m;obtain ⟨p,hp,e⟩:=aj.mp m;have q:(kvs.any λkv=>decide (kv.1=k))=true:=gS.mpr ⟨p,hp,decide_eq_true e⟩;rw [fT,h] at q;exact absurd q (by simp)
def E8: ∀{l:List κ} {k:κ},l.Nodup->¬k∈l->(l++ [k]).Nodup
 | [],k,_,_=>by simp
 |a::r,k,h,hk=>by
  obtain ⟨h1,h2⟩:=bo.mp h;show (a::(r++ [k])).Nodup;refine bo.mpr ⟨λm=>?_,E8 h2 λm=>hk (aD.mpr (FR m))⟩;rcases bG.mp m with q|q
  ·exact h1 q
  ·exact hk (aD.mpr (LQ (aP.mp q).symm))
end
def at_of {xs:List V} {z:Int} {j:Nat} {v:V} (e:z=(j:Int)) (h:xs[j]?=some v):FD xs z=some v:=by
 rw [e];exact NZ h
end L2
namespace Lf
open PySem PyProof.Rows
def Ek (P:adT) (w:adQ) (A:adW) (h0:adO) (G:Nat->Value->Prop) (bt:Nat->Nat->Bool):Prop:=
 ∀(i j:Nat) (x y:Value) (s:adN) (Q E:Value->adN->Prop),(∀b o,h0.get? b=some o->s.heap.get? b=some o)->G i x->G j y->Q (.bool (bt i j)) s->wpAny (adR P w) A (aeP .Lt x y) Q E s
section
variable {P:adT} {w:adQ} {A:adW} {R:Result->adN->Prop} {it:Addr} {fp wr:List Addr} {n:Nat} {G:Nat->Value->Prop} {St:Nat->adO->Prop} {h0:adO} {kw:List (Str×Value)}
def oN:(toString "min" ++toString ".loop" :String)= "min.loop" :=by decide
def Te (W:Walks P w A.in1 it fp wr n G St) (bt:Nat->Nat->Bool) (cmp:Ek P w A.in1 h0 G bt) (S:Addr) (nS:S∉fp) (Wa:h0.get? S=none) (V9: ∀b∈wr,h0.get? b=none):
  ∀(k j:Nat) (s:adN) (x:Value) (c:Nat),n-(j+1)=k->j+1<=n->St (j+1) s.heap->G (ad5 bt j) x->(∀b o,h0.get? b=some o->s.heap.get? b=some o)->
  s.heap.get? S=some {cls:= .type "list",dict:=none,data:= .seq #[x,x] c,slots:= #[]}->
  (∀v h' tk,G (ad5 bt (n-1)) v->(∀b o,b∉wr->b≠S->s.heap.get? b=some o->h'.get? b=some o)->R (.ok (.ret v)) {s with heap:=h',toks:=tk})->
  codeAny (adR P w) A (.builtin "min.loop" ⟨[.ref it, .none, .ref S],kw⟩) R s:=by
 have nw:S∉wr:=λh=>nS (W.sub _ h);intro k;induction k with
 |zero=>
  intro j s x c hk hj st g kp hS hR;have en:j+1=n:=by omega
  refine aeB iy ?_;rw [Around.under_plainId ci _];show wpAny _ A.in1 (seqItems? (.ref S)>>=_) _ _ s;refine adP (ae5 (s:=s) hS rfl ?_);show wpAny _ A.in1 (tryCatch (aef (.ref it)) _>>=_) _ _ s;refine adP (aeU (W.done s _ _ (en▸st) λh' tk k1=>?_));have OH:=k1 S _ nw hS;show wpAny _ A.in1 (updateSeq S (λ_=> #[])>>=_) _ _ _;refine adP (ae8 OH rfl (adP (aeC (adV ?_))));exact hR x _ tk (by rw [<-en];exact g) λb o Cu Nj e=>(Heap.get?_update_other _ _ (fz Nj)).trans (k1 b o Cu e)
 |succ k ih=>
  intro j s x c hk hj st g kp hS hR;have lt:j+1<n:=by omega
  refine aeB iy ?_;rw [Around.under_plainId ci _];show wpAny _ A.in1 (seqItems? (.ref S)>>=_) _ _ s;refine adP (ae5 (s:=s) hS rfl ?_);show wpAny _ A.in1 (tryCatch (aef (.ref it)) _>>=_) _ _ s;refine adP (aeU (W.item (j+1) s _ _ lt st λv h' tk gv wy k1=>?_));have OH:=k1 S _ nw hS;have To: ∀b o,h0.get? b=some o->h'.get? b=some o:=λb o e=>k1 b o (λz=>by rw [V9 b z] at e;cases e) (kp b o e);show wpAny _ A.in1 (tryCatch (aeE [v,v] (aeP .Lt v x>>=_)) _>>=_) _ _ _;refine adP (aeU (aeh (adP (cmp (j+1) (ad5 bt j) v x _ _ _ To gv g ?_))));refine adP (aeh (aen (adP (aeC (adV ?_)))));cases hb:bt (j+1) (ad5 bt j) with
  |true=>
   simp only [if_true];refine adP (ae8 OH rfl (adP (aeC ?_)));rw [oN];refine adV ⟨aet ci _,ih (j+1) _ v _ (by omega) lt (W.frame _ _ _ wy λb YG o e=>?_) (by simp only [ad5,hb,if_true];exact gv) (λb o e=>?_) (Heap.get?_update_self _ OH rfl)
    λv' wD Iy g' k2=>?_⟩
   ·exact (Heap.get?_update_other _ _ (λz:S=b=>nS (by rw [z];exact YG))).trans e
   ·exact (Heap.get?_update_other _ _ (λz:S=b=>by rw [<-z,Wa] at e;cases e)).trans (To b o e)
   ·exact hR v' wD Iy g' λb o Cu Nj e=>k2 b o Cu Nj ((Heap.get?_update_other _ _ (fz Nj)).trans (k1 b o Cu e))
  |false=>
   simp only [bN,if_false];refine adP (aeC ?_);rw [oN];exact adV ⟨aet ci _,ih (j+1) _ x c (by omega) lt wy (by simp only [ad5,hb,bN,if_false];exact g) To OH λv' wD Iy g' k2=>
    hR v' wD Iy g' λb o Cu Nj e=>k2 b o Cu Nj (k1 b o Cu e)⟩
def JE (W:Walks P w A.in1 it fp wr n G St) (bt:Nat->Nat->Bool) (cmp:Ek P w A.in1 h0 G bt) (S:Addr) (nS:S∉fp) (Wa:h0.get? S=none) (V9: ∀b∈wr,h0.get? b=none) (hn:0<n) {s:adN} {c:Nat} (st:St 0 s.heap)
  (kp: ∀b o,h0.get? b=some o->s.heap.get? b=some o) (hS:s.heap.get? S=some {cls:= .type "list",dict:=none,data:= .seq #[] c,slots:= #[]})
  (hR: ∀v h' tk,G (ad5 bt (n-1)) v->(∀b o,b∉wr->b≠S->s.heap.get? b=some o->h'.get? b=some o)->R (.ok (.ret v)) {s with heap:=h',toks:=tk}):
  codeAny (adR P w) A (.builtin "min.loop" ⟨[.ref it, .none, .ref S],kw⟩) R s:=by
 have nw:S∉wr:=λh=>nS (W.sub _ h);refine aeB iy ?_;rw [Around.under_plainId ci _];show wpAny _ A.in1 (seqItems? (.ref S)>>=_) _ _ s;refine adP (ae5 (s:=s) hS rfl ?_);show wpAny _ A.in1 (tryCatch (aef (.ref it)) _>>=_) _ _ s;refine adP (aeU (W.item 0 s _ _ hn st λv h' tk gv wy k1=>?_));have OH:=k1 S _ nw hS;have To: ∀b o,h0.get? b=some o->h'.get? b=some o:=λb o e=>k1 b o (λz=>by rw [V9 b z] at e;cases e) (kp b o e);show wpAny _ A.in1 (updateSeq S (λ_=> #[v,v])>>=_) _ _ _;refine adP (ae8 OH rfl ?_);rw [oN];refine adV ⟨aet ci _,Te W bt cmp S nS Wa V9 _ 0 _ v _ rfl hn (W.frame _ _ _ wy λb YG o e=>?_) gv (λb o e=>?_) (Heap.get?_update_self _ OH rfl) λv' wD Iy g' k2=>?_⟩
 ·exact (Heap.get?_update_other _ _ (λz:S=b=>nS (by rw [z];exact YG))).trans e
 ·exact (Heap.get?_update_other _ _ (λz:S=b=>by rw [<-z,Wa] at e;cases e)).trans (To b o e)
 ·exact hR v' wD Iy g' λb o Cu Nj e=>k2 b o Cu Nj ((Heap.get?_update_other _ _ (fz Nj)).trans (k1 b o Cu e))
end
section
variable {P:adT} {w:adQ} {A:adW} {E:Value->adN->Prop} {s:adN} {l:Addr} {vs:List Value} {Q:Value->adN->Prop}
def Back (Q E:Value->adN->Prop):Result->adN->Prop
 | .ok (.ret v),t=>Q v t
 | .ok _,_=>False
 | .error e,t=>E e t
def Ec {id:String} {b:ad9} {us:List Value} {kw:List (Str×Value)} (h1:builtinKind id=none) (h2:plainId id=true) (h3:entryFor table id=some b) (h4:ael id ⟨us,kw⟩)
  (h:wpAny (adR P w) A.in1 (b ⟨us,kw⟩) (λfin t=>match fin with
   | .done f=>Back Q E (.ok f) t
   | .again c=>c.quiet=true/\codeAny (adR P w) A c (Back Q E) t) E s):wpAny (adR P w) A (call (.builtin id) us kw) Q E s:=by
 have h':wpAny (adR P w) A.in1 (b ⟨us,kw⟩) (λfin s'=>match fin with
   | .done f=>(match (Except.ok f:Result) with| .ok (.ret v)=>Q v s'| .ok _=>False| .error e=>E e s')
   | .again c'=>c'.quiet=true/\codeAny (adR P w) A c' (λr s'=>match r with| .ok (.ret v)=>Q v s'| .ok _=>False| .error e=>E e s') s') E s:=by
  refine wpAny_mono h (λfin t q=>?_) λ_ _ q=>q;cases fin with
  |done f=>cases f<;>exact q
  |again c=>
   refine ⟨q.1,aey q.2 λr t z=>?_⟩;rcases r with e|f
   ·exact z
   ·cases f<;>exact z
 refine ae1 (ae9 h2 h3 ?_);simp only [afa,h1];cases e:Manifest.signature? id with
 |none=>exact adV h'
 |some sg=>
  have z:Bind.checkArgs id sg ⟨us,kw⟩=pure ():=by simpa only [ael,e] using h4
  simp only [z];exact adV h'
def BV (a d:Value):ael "min" ⟨[a],[(Str.ofString "default",d)]⟩:=by unfold ael;kernel_rfl
def M0 (hh:A.handled=none) (hl:s.heap.IsList l vs.toArray) (bt:Nat->Nat->Bool) (cmp:Ek P w A.in1 s.heap (λi v=>vs.toArray[i]?=some v) bt) (gp:0<vs.length) {kw:List (Str×Value)} (hkw:kw= []∨∃d,kw= [(Str.ofString "default",d)])
  (h: ∀v h' tk,vs[ad5 bt (vs.length-1)]?=some v->(∀b o,s.heap.get? b=some o->h'.get? b=some o)->Q v {s with heap:=h',toks:=tk}):
  wpAny (adR P w) A (call (.builtin "min") [.ref l] kw) Q E s:=by
 have ha:ael "min" ⟨[.ref l],kw⟩:=by
  rcases hkw with rfl|⟨d,rfl⟩
  ·exact PySem.F.args_min1 _
  ·exact BV _ _
 have hb: ∃dv,Builtin.Builtins.bindParams "min" ["key","default"] 0 ⟨[],kw⟩=pure [none,dv]/\(dv.toList.map λd=>(Str.ofString "default",d))=kw:=by
  rcases hkw with rfl|⟨d,rfl⟩
  ·exact ⟨none,rfl,rfl⟩
  ·exact ⟨some d,rfl,rfl⟩
 obtain ⟨dv,hb,Fj⟩:=hb;refine Ec sn ra rb ha ?_;show wpAny _ A.in1 (Builtin.Builtins.bindParams "min" ["key","default"] 0 ⟨[],kw⟩>>=_) _ _ s;refine adP (ae6 hb (adP (adV ?_)));have jd:l<s.heap.objs.size:=by obtain ⟨_,e,_⟩:=hl;exact Heap.lt_size e
 refine adP (aex hl ?_);refine adP (aeS ?_);have W:=Walks.list (prog:=P) (w:=w) (A:=A.in1) hh s.heap.objs.size l (bH jd) vs.toArray;have sz:(s.heap.push {cls:= .type "list_iterator",data:= .fields #[.ref l, .int 0 0]}).objs.size=s.heap.objs.size+1:=Heap.size_push ..;have e1:(Heap.get? s.heap s.heap.objs.size)=none:=Heap.get?_none_of_le (ay _);have e2:(Heap.get? s.heap (s.heap.objs.size+1))=none:=Heap.get?_none_of_le (lT _);rw [oN];refine adV ⟨aet ci _,?_⟩;have Yp:(dv.toList.map λd=>(("default" :Str),d))=kw:=Fj;rw [Yp];refine JE (h0:=s.heap) W bt cmp _ (λz=>?_) (by rw [sz];exact e2) (λb hb=>?_) (by rw [bf];exact gp)
  ⟨⟨_,Heap.get?_push_of_some _ (Heap.get?_push_size _ rfl),rfl,rfl⟩,(hl.push _).push _⟩ (λb o e=>Heap.get?_push_of_some _ (Heap.get?_push_of_some _ e)) (Heap.get?_push_size _ rfl) λv h' tk g k=>?_
 ·rw [sz] at z;rcases aD.mp z with e|z
  ·exact absurd e (wv _)
  ·have e:=aP.mp z;rw [<-e] at jd;exact absurd jd (Nat.not_lt.mpr (lT _))
 ·rw [aP.mp hb];exact e1
 ·refine h v h' tk (by simpa using g) λb o e=>k b o (λz=>?_) (λz=>?_) (Heap.get?_push_of_some _ (Heap.get?_push_of_some _ e))
  ·rw [aP.mp z,e1] at e;cases e
  ·rw [z,sz,e2] at e;cases e
def MZ (hh:A.handled=none) (hl:s.heap.IsList l #[]) (d:Value) (h: ∀h' tk,(∀b o,s.heap.get? b=some o->h'.get? b=some o)->Q d {s with heap:=h',toks:=tk}):
  wpAny (adR P w) A (call (.builtin "min") [.ref l] [(Str.ofString "default",d)]) Q E s:=by
 refine Ec sn ra rb (BV _ _) ?_;show wpAny _ A.in1 (Builtin.Builtins.bindParams "min" ["key","default"] 0 ⟨[],[(Str.ofString "default",d)]⟩>>=_) _ _ s;refine adP (ae6 (show Builtin.Builtins.bindParams "min" ["key","default"] 0 ⟨[],[(Str.ofString "default",d)]⟩=pure [none,some d] from rfl) (adP (adV ?_)));have jd:l<s.heap.objs.size:=by obtain ⟨_,e,_⟩:=hl;exact Heap.lt_size e
 refine adP (aex hl ?_);refine adP (aeS ?_);have W:=Walks.list (prog:=P) (w:=w) (A:=A.in1) hh s.heap.objs.size l (bH jd) #[];have sz:(s.heap.push {cls:= .type "list_iterator",data:= .fields #[.ref l, .int 0 0]}).objs.size=s.heap.objs.size+1:=Heap.size_push ..;have e1:(Heap.get? s.heap s.heap.objs.size)=none:=Heap.get?_none_of_le (ay _);rw [oN];refine adV ⟨aet ci _,?_⟩;refine aeB iy ?_;rw [Around.under_plainId ci _];refine adP (ae5 (s:=_) (Heap.get?_push_size _ rfl) rfl ?_);show wpAny _ A.in1 (tryCatch (aef (.ref s.heap.objs.size)) _>>=_) _ _ _;refine adP (aeU (W.done _ _ _ ⟨⟨_,Heap.get?_push_of_some _ (Heap.get?_push_size _ rfl),rfl,rfl⟩,(hl.push _).push _⟩ λh' tk k=>?_));refine adP (aeV (adV ?_));refine h h' tk λb o e=>k b o (λz=>?_) (Heap.get?_push_of_some _ (Heap.get?_push_of_some _ e));rw [aP.mp z,e1] at e;cases e
end
end Lf
namespace Lf
open PySem PyProof.Rows
def tm:List Int->List Int->Bool
 | [],[]=>false
 | [],_::_=>true
 |_::_,[]=>false
 |x::xs,y::ys=>if x=y then tm xs ys else decide (x<y)
def zo: ∀{vs:List Value} {ns:List Int} {i:Nat} {n:Int},IntsAre vs ns->ns[i]?=some n->∃t,vs[i]?=some (.int n t)
 |_,_,_,_, .nil,e=>by simp at e
 |_,_,0,_, .cons m t _,e=>by simp at e;subst e;exact ⟨t,rfl⟩
 |_,_,i+1,n, .cons _ _ r,e=>by simpa using zo (i:=i) (n:=n) r (by simpa using e)
def zn: ∀{vs:List Value} {ns:List Int},IntsAre vs ns->vs.length=ns.length
 |_,_, .nil=>rfl
 |_,_, .cons _ _ r=>by simp [zn r]
section
open PySem.SeqAt
open PySem.AutoSeq1 (wpAny_loadPart')
open PySem.MeetsSeq PySem.MeetsSeq2 PySem.MeetsSeq3
def P0 (l b:Addr) (xs ys:Array Value) (n n2:Nat) (dd OR:Option Addr) (sl Oh:Array (Option Value)) (ns ms:List Int) (hi:IntsAre xs.toList ns) (hj:IntsAre ys.toList ms) (k:Nat):
  ∀i:Nat,xs.size-i=k->i<=xs.size->i<=ys.size->Meets (ad9.«list.__eq__.loop» ⟨[.ref l, .ref b,rawInt i,rawInt 0],[]⟩)
   (λ_ R s=>s.heap.get? l=some {cls:= .type "list",dict:=dd,data:= .seq xs n,slots:=sl}/\s.heap.get? b=some {cls:= .type "list",dict:=OR,data:= .seq ys n2,slots:=Oh}/\
    R (.ok (.ret (.bool (tm (ns.drop i) (ms.drop i))))) s):=by
 have z1:xs.size=ns.length:=by rw [<-zn hi];simp
 have z2:ys.size=ms.length:=by rw [<-zn hj];simp
 induction k with
 |zero=>
  intro i hk h1 h2 prog w A R s h;obtain ⟨hp,g,d,tk,os⟩:=s;obtain ⟨hl,hb,h⟩:=h
  wp_walk using wpAny_loadPart' hl,wpAny_loadPart' hb
  have e1:xs[((i:Nat):Int).toNat]?=none:=by simp;omega
  rw [e1]
  wp_walk using wpAny_loadPart' hl,wpAny_loadPart' hb
  show R (.ok (.ret (.bool (decide (xs.size<ys.size))))) _;have e2:ns.drop i= []:=iI (by omega);rw [e2] at h;have e3:tm [] (ms.drop i)=decide (xs.size<ys.size):=by
   cases q:ms.drop i with
   |nil=>
    have:ms.length<=i:=List.drop_eq_nil_iff.mp q;exact (decide_eq_false (by omega)).symm
   |cons y r=>
    have: ¬ms.length<=i:=λz=>by rw [iI z] at q;cases q
    exact (decide_eq_true (by omega)).symm
  rw [e3] at h;exact h
 |succ k ih=>
  intro i hk h1 h2 prog w A R s h;obtain ⟨hp,g,d,tk,os⟩:=s;obtain ⟨hl,hb,h⟩:=h
  wp_walk using wpAny_loadPart' hl,wpAny_loadPart' hb
  have ZI:i<ns.length:=by omega
  obtain ⟨t,et⟩:=zo (i:=i) (n:=ns[i]) hi (ao ZI);have e1:xs[((i:Nat):Int).toNat]?=some (.int ns[i] t):=by rw [LW, <-et,gr]
  have d1:ns.drop i=ns[i] ::ns.drop (i+1):=g5 ZI;rw [d1] at h;rw [e1];by_cases ZH:i<ms.length
  ·obtain ⟨u,eu⟩:=zo (i:=i) (n:=ms[i]) hj (ao ZH);have e2:ys[((i:Nat):Int).toNat]?=some (.int ms[i] u):=by rw [LW, <-eu,gr]
   have d2:ms.drop i=ms[i] ::ms.drop (i+1):=g5 ZH;rw [d2] at h;rw [e2];have hc:((i:Int)+1)=((i+1:Nat):Int):=by push_cast;rfl
   refine adP (SeqAt.EqAt.int_int ns[i] t ms[i] u prog w _ _ ?_);by_cases e:ns[i]=ms[i]
   ·have eb:(ns[i] ==ms[i])=true:=by simpa using e
    rw [eb];have h:R (.ok (.ret (.bool (if ns[i]=ms[i] then tm (ns.drop (i+1)) (ms.drop (i+1)) else decide (ns[i] <ms[i]))))) _:=h;rw [if_pos e] at h
    wp_walk
    rw [hc];exact ⟨aet plain_eq_loop _,aeB entry_eq_loop (by
     rw [Around.under_plainId plain_eq_loop _];exact ih (i+1) (by omega) (by omega) (by omega) prog w A R _ ⟨hl,hb,h⟩)⟩
   ·have eb:(ns[i] ==ms[i])=false:=by simpa using e
    rw [eb];have h:R (.ok (.ret (.bool (if ns[i]=ms[i] then tm (ns.drop (i+1)) (ms.drop (i+1)) else decide (ns[i] <ms[i]))))) _:=h;rw [if_neg e] at h
    wp_walk using wpAny_loadPart' hl,wpAny_loadPart' hb
    rw [e1,e2];have Cq: ∀(s:adN) (Q E:Value->adN->Prop),Q (.bool (decide (ns[i] <ms[i]))) s->wpAny (adR prog w) A.in1 (aeP .Lt (.int ns[i] t) (.int ms[i] u)) Q E s:=λs Q E q=>
     richCompare_gives (op:= .Lt) (aeQ s _ t) (aeQ s _ u) PySem.F.slot_int_lt PySem.F.entry_int_lt (PySem.F.args_int_lt_2 _ _) (gives_int_lt _ _ t u) (λx=>nomatch x) q
    wp_walk using Cq
    exact h
  ·have e2:ys[((i:Nat):Int).toNat]?=none:=by simp;omega
   have d2:ms.drop i= []:=iI (by omega);rw [d2] at h;rw [e2]
   wp_walk using wpAny_loadPart' hl,wpAny_loadPart' hb
   show R (.ok (.ret (.bool (decide (xs.size<ys.size))))) _;have e3:decide (xs.size<ys.size)=false:=decide_eq_false (by omega);rw [e3];exact h
def P3 (l b:Addr) (xs ys:Array Value) (n n2:Nat) (dd OR:Option Addr) (sl Oh:Array (Option Value)) (ns ms:List Int) (hi:IntsAre xs.toList ns) (hj:IntsAre ys.toList ms):
  Meets (ad9.«list.__lt__» ⟨[.ref l, .ref b],[]⟩)
   (λ_ R s=>s.heap.get? l=some {cls:= .type "list",dict:=dd,data:= .seq xs n,slots:=sl}/\s.heap.get? b=some {cls:= .type "list",dict:=OR,data:= .seq ys n2,slots:=Oh}/\
    R (.ok (.ret (.bool (tm ns ms)))) s):=by
 intro prog w A R s h;obtain ⟨hp,g,d,tk,os⟩:=s;obtain ⟨hl,hb,h⟩:=h;have f3:=AutoSeq1.sub_list_list
 wp_walk using wpAny_loadPart' hl,wpAny_loadPart' hb
 exact ⟨aet plain_eq_loop _,aeB entry_eq_loop (by
  rw [Around.under_plainId plain_eq_loop _];exact P0 l b xs ys n n2 dd OR sl Oh ns ms hi hj _ 0 rfl (bv _) (bv _) prog w A R _ ⟨hl,hb,h⟩)⟩
end
section
variable {P:adT} {w:adQ} {A:adW} {E:Value->adN->Prop} {s:adN}
def DB {l b:Addr} {xs ys:Array Value} {n n2:Nat} {ns ms:List Int} {Q:Value->adN->Prop} (hl:s.heap.get? l=some {cls:= .type "list",data:= .seq xs n}) (hb:s.heap.get? b=some {cls:= .type "list",data:= .seq ys n2})
  (hi:IntsAre xs.toList ns) (hj:IntsAre ys.toList ms) (hu:A.units<ad0) (h:Q (.bool (tm ns ms)) s):wpAny (adR P w) A (aeP .Lt (.ref l) (.ref b)) Q E s:=
 richCompare_meets_room (op:= .Lt) ⟨_,hl,rfl⟩ ⟨_,hb,rfl⟩ PySem.F.slot_list_lt PySem.F.entry_list_lt (PySem.F.args_list_lt_2 _ _) (P3 l b xs ys n n2 none none #[] #[] ns ms hi hj)
  ⟨hl,hb,show Value.bool (tm ns ms)≠Value.notImplemented/\Q (.bool (tm ns ms)) s from ⟨(λx=>nomatch x),h⟩⟩ hu
end
end Lf
namespace Lf
open PySem PyProof.Rows
section
variable {P:adT} {w:adQ} {K:Type} [DecidableEq K] {knd:HeapKind P w K} {A:adW} {E:Value->adN->Prop} {s:adN}
def mF (xs:List (K×Addr×Value)) (k:K):List (K×Addr×Value):=xs.filter λx=>decide (x.1≠k)
def BM: ∀{xs:List (K×Addr×Value)} {k:K},k∉xs.map (·.1)->mF xs k=xs
 | [],_,_=>rfl
 |x::r,k,h=>by
  rw [be,aD,not_or] at h;unfold mF;rw [bw,if_pos (by simpa using λe=>h.1 e.symm)];exact congrArg (x:: ·) (BM h.2)
def vP {β:Type} (f:K×Addr×Value->β): ∀{xs:List (K×Addr×Value)} {j:Nat} {k:K} {p:Addr×Value},(xs.map (·.1)).Nodup->xs[j]?=some (k,p)->(xs.map f).eraseIdx j=(mF xs k).map f
 | [],_,_,_,_,h=>by simp at h
 |x::r,0,k,p,hn,h=>by
  simp at h;subst h;rw [be] at hn;have hk:=(bo.mp hn).1;have e:mF ((k,p)::r) k=r:=by
   unfold mF;rw [bw,if_neg (by simp)];exact BM hk
  rw [e];rfl
 |x::r,j+1,k,p,hn,h=>by
  rw [be] at hn;obtain ⟨h1,h2⟩:=bo.mp hn;have h':r[j]?=some (k,p):=by simpa using h
  have gp:x.1≠k:=λe=>h1 (e▸aj.mpr ⟨(k,p),aI h',rfl⟩);have e:mF (x::r) k=x::mF r k:=by
   unfold mF;rw [bw,if_pos (by simpa using gp)]
  rw [e,be,be,Cn,vP f h2 h']
def R4 {d a:Addr} {xs:List (K×Addr×Value)} {k:K} {Q:Option aeL->adN->Prop} (hu:knd.room A) (hk:knd.is s.heap k a) (hm:s.heap.DictOfH knd d xs) (hz:xs.length<=sizeLine)
  (h0:aeb xs k=none->Q none {s with toks:=s.toks+knd.draws k})
  (h1: ∀e p,aeb xs k=some p->e.val=p.2->∀h',h'.DictOfH knd d (mF xs k)->Heap.SameBut d s.heap h'->Q (some e) {s with heap:=h',toks:=s.toks+knd.draws k}):
  wpAny (adR P w) A (Builtin.Dict.takeOut d (.ref a)) Q E s:=by
 obtain ⟨o,es,ep,ho,hc,hd,he,RH,hn⟩:=hm;have hes:es.size<=sizeLine:=by have:=ae7 he;omega
 unfold Builtin.Dict.takeOut;try with_reducible refine aeh ?_
 refine adP (knd.pyHash hu hk (adP (wpAny_dictFind_heap (s:={s with toks:=s.toks+knd.draws k}) hu hk ho hd he RH hn (λno=>adV (h0 (atKey_none_of_get no))) λj p hj=>?_)));refine adP (afb (s:={s with toks:=s.toks+knd.draws k}) ho hd ?_);rw [entry_at he j,hj];refine adP (wpAny_updateDictKeys (hz:=hes) (s:={s with toks:=s.toks+knd.draws k}) ho hd (adV (h1 _ p (atKey_of_get hn hj) rfl _
  ⟨_,_,ep+1,Heap.get?_update_self _ ho (Obj.isFreed_of_dict (Obj.data_mapDictKeys hd _)),hc.mapDictKeys _,Obj.data_mapDictKeys hd _,?_,?_,?_⟩ (Heap.SameBut.update ..))))
 ·have hjl:j<es.size:=by rw [ae7 he];exact (aK.mp hj).1
  rw [<-vP (entryOfKey knd) hn hj, <-he];obtain ⟨l⟩:=es;simp [Array.eraseIdxIfInBounds,show j<l.length from by simpa using hjl]
 ·exact λx hx=>knd.keeps (RH x (au.mp hx).1) ho hd (Heap.SameBut.update ..)
 ·exact hn.sublist (WH _ qi)
def Xm {d a:Addr} {k:K} {z:Value} (hd:(d==ad4)=false):
  MeetsIn P w (ad9.«dict.pop» ⟨[.ref d, .ref a,z],[]⟩) (λA R s=> ∃xs,knd.room A.in1/\knd.is s.heap k a/\s.heap.DictOfH knd d xs/\xs.length<=sizeLine/\
   (aeb xs k=none->∀tk,R (.ok (.ret z)) {s with toks:=tk})/\
   (∀p,aeb xs k=some p->∀h' tk,h'.DictOfH knd d (mF xs k)->Heap.SameBut d s.heap h'->R (.ok (.ret p.2)) {s with heap:=h',toks:=tk})):=
 .of_wp λA R s ⟨xs,hu,hk,hm,hz,h0,h1⟩=>by
  unfold ad9.«dict.pop»;refine adP ?_;unfold Builtin.Dict.keyAndDefault;refine adP (wpAny_notOrdered_dict hm.typeIs ?_);refine adV ?_;obtain ⟨o,es,ep,ho,hc,LL,he,_⟩:=id hm;have OD:(keyPart (.ref a)).isSome=false:=rfl;simp only [OD,bN,if_false];refine adP (afb ho LL (adP (adV ?_)));cases hE:es.isEmpty with
  |true=>
   have hx:xs= []:=by
    have:=ae7 he;have e0:es.size=0:=by simpa using hE
    exact iz.mp (by omega)
   simp only [if_true];refine adP (aeV (adP (adV ?_)));simp only [FS,if_true];refine adP (aff hd (adP (aeV (adV ⟨z,rfl,h0 (by rw [hx];rfl) _⟩))))
  |false=>
   simp only [bN,if_false];refine adP (R4 hu hk hm hz (λno=>?_) λe p hp hv h' dd sb=>?_)
   ·simp only [FS,if_true];exact adP (aff hd (adP (aeV (adV ⟨z,rfl,h0 no _⟩))))
   ·simp only [Option.isNone_some,bN,if_false];exact adP (aeC (adV ⟨e.val,rfl,by rw [hv];exact h1 p hp h' _ dd sb⟩))
end
end Lf
open PySem PySem.Spec PyProof.Rows L2
namespace Lf
def fE {N ps:List Str} {sc:ad1} (h:bh N ps sc:=by exact ⟨rfl,rfl,rfl,by decide+kernel,rfl,by decide+kernel,by decide+kernel⟩):bh N ps sc:=h
def gM (K:aa) (H:Hp) (a:Addr) (f:Str) (v:V):Prop:= ∃C dx fs,H a=some (.ins C dx fs)/\El K C/\bF K C f/\fs.lookup f=some v
def gM.mono {K:aa} {H H':Hp} {a:Addr} {f:Str} {v:V} (h:gM K H a f v) (s:aB H H'):gM K H' a f v:=by
 obtain ⟨C,dx,fs,h1,h2⟩:=h;exact ⟨C,dx,fs,s _ _ h1,h2⟩
def aH {K:aa} {H:Hp} {a:Addr} {f:Str} {v:V} {Q:V->Prop} (h:gM K H a f v) (q:Q v):
  ∃(a' C dx:Addr) (fs:List (Str×V)) (v':V),V.ref a= .ref a'/\H a'=some (.ins C dx fs)/\El K C/\bF K C f/\fs.lookup f=some v'/\Q v':=by
 obtain ⟨C,dx,fs,h1,h2,h3,h4⟩:=h;exact ⟨a,C,dx,fs,v,rfl,h1,h2,h3,h4,q⟩
def aB.new {H:Hp} {p:Addr} {o:HO} (h:H p=none):aB H (upd H p o):=λb u e=>by
 rw [bL (aG e h)];exact e
def dH (a:Addr) (H H':Hp):Prop:= ∀b o,b≠a->H b=some o->H' b=some o
def dH.upd {H:Hp} {a:Addr} {o:HO}:dH a H (upd H a o):=λb u hb e=>by rw [bL hb];exact e
def aB.but {a:Addr} {H H':Hp} (s:aB H H'):dH a H H':=λb o _ e=>s b o e
def dH.trans {a:Addr} {H H1 H2:Hp} (x:dH a H H1) (y:dH a H1 H2):dH a H H2:=λb o hb e=>y b o hb (x b o hb e)
def dH.same {a:Addr} {H0 H H':Hp} (s:aB H0 H) (n:H0 a=none) (x:dH a H H'):aB H0 H':=λb o e=>x b o (aG e n) (s b o e)
def bQ {α β:Type} (R:α->β->Prop) (as:List α) (bs:List β):Prop:=as.length=bs.length/\∀(i:Nat) (a:α) (b:β),as[i]?=some a->bs[i]?=some b->R a b
section
variable {α β:Type} {R S:α->β->Prop} {as:List α} {bs:List β}
def bQ.nil:bQ R ([]:List α) ([]:List β):=⟨rfl,λi a b h=>by simp at h⟩
def bQ.mono (h:bQ R as bs) (k: ∀a b,R a b->S a b):bQ S as bs:=⟨h.1,λi a b x y=>k a b (h.2 i a b x y)⟩
def bQ.get (h:bQ R as bs) {i:Nat} {b:β} (e:bs[i]?=some b): ∃a,as[i]?=some a/\R a b:=by
 have hi:i<as.length:=by rw [h.1];exact (aK.mp e).1
 exact ⟨as[i],ao hi,h.2 i _ b (ao hi) e⟩
def bQ.get' (h:bQ R as bs) {i:Nat} {a:α} (e:as[i]?=some a): ∃b,bs[i]?=some b/\R a b:=by
 have hi:i<bs.length:=by rw [<-h.1];exact (aK.mp e).1
 exact ⟨bs[i],ao hi,h.2 i a _ e (ao hi)⟩
def bQ.snoc (h:bQ R as bs) {a:α} {b:β} (r:R a b):bQ R (as++ [a]) (bs++ [b]):=by
 refine ⟨by rw [aL,aL,h.1];rfl,λi x y hx hy=>?_⟩;by_cases hi:i<as.length
 ·rw [bV hi] at hx;rw [bV (by rw [<-h.1];exact hi)] at hy;exact h.2 i x y hx hy
 ·have GZ:as.length<=i:=by omega
  rw [cA GZ] at hx;rw [cA (by rw [<-h.1];exact GZ), <-h.1] at hy;cases q:i-as.length with
  |zero=>
   rw [q] at hx hy;have e1:a=x:=by simpa using hx
   have e2:b=y:=by simpa using hy
   rw [<-e1, <-e2];exact r
  |succ n=>
   rw [q] at hx;simp at hx
def bQ.append (h:bQ R as bs) {cs:List α} {ds:List β} (k:bQ R cs ds):bQ R (as++cs) (bs++ds):=by
 refine ⟨by rw [aL,aL,h.1,k.1],λi x y hx hy=>?_⟩;by_cases hi:i<as.length
 ·rw [bV hi] at hx;rw [bV (by rw [<-h.1];exact hi)] at hy;exact h.2 i x y hx hy
 ·have GZ:as.length<=i:=by omega
  rw [cA GZ] at hx;rw [cA (by rw [<-h.1];exact GZ), <-h.1] at hy;exact k.2 _ x y hx hy
def bQ.cut (h:bQ R as bs) (i n:Nat):bQ R ((as.drop i).take n) ((bs.drop i).take n):=by
 refine ⟨by simp [h.1],λk x y hx hy=>?_⟩;rw [List.getElem?_take] at hx hy;by_cases hk:k<n
 ·rw [if_pos hk,rq] at hx hy;exact h.2 _ x y hx hy
 ·rw [if_neg hk] at hx;cases hx
end
def b0 {as:List Addr} {i:Nat} {x:V} (h:(as.map V.ref)[i]?=some x): ∃a,as[i]?=some a/\x= .ref a:=by
 rw [br] at h;cases e:as[i]? with
 |none=>rw [e] at h;cases h
 |some a=>rw [e] at h;exact ⟨a,rfl,(bx h).symm⟩
def ints_get {ns:List Int} {i:Nat} {x:V} (h:(ns.map V.int)[i]?=some x): ∃n,ns[i]?=some n/\x= .int n:=by
 rw [br] at h;cases e:ns[i]? with
 |none=>rw [e] at h;cases h
 |some a=>rw [e] at h;exact ⟨a,rfl,(bx h).symm⟩
def ir {ns:List Int} {i:Nat} {n:Int} (h:ns[i]?=some n):(ns.map V.int)[i]?=some (.int n):=by rw [br,h];rfl
def bC {as:List Addr} {i:Nat} {a:Addr} (h:as[i]?=some a):(as.map V.ref)[i]?=some (.ref a):=by rw [br,h];rfl
section
variable (P:adT) (w:adQ) (K:aa) (mg:Str->Option Value) (base:adO)
def Fn (x:Str) (k:Nat) (ps:List Str) (sp:Sp):Prop:= ∃f fd,mg x=some (.ref f)/\eL K (.ref f)=true/\Binds K fd ps []/\kO P w K mg base Lm k f fd ps sp
def Cl (x:Str) (C:Addr) (k:Nat) (ps:List Str) (sp:Sp):Prop:= ∃f fd,mg x=some (.ref C)/\Mk K C f/\Binds K fd ps []/\kO P w K mg base Lm k f fd ps sp
def Dn (x:Str) (st:adZ) (ps:List Str):Prop:= ∃f fd,Lk K x x st f fd/\mg x=some (.ref f)/\Binds K fd ps []
def Dc (x q:Str) (st:adZ) (C:Addr) (ps:List Str):Prop:= ∃f fd,Lk K "__init__" q st f fd/\mg x=some (.ref C)/\Mk K C f/\Binds K fd ps []/\El K C
def Ci (x:Str) (n:Int):Prop:= ∃u,mg x=some u/\RelV (.int n) u
end
section
variable {P:adT} {w:adQ} {K:aa} {mg:Str->Option Value} {base:adO}
def Dn.fn {x:Str} {st:adZ} {ps:List Str} {k:Nat} {sp:Sp} (D:Dn K mg x st ps) (h: ∀f fd,Lk K x x st f fd->kO P w K mg base Lm k f fd ps sp):Fn P w K mg base x k ps sp:=by
 obtain ⟨f,fd,F,hm,hb⟩:=D;exact ⟨f,fd,hm,F.kp,hb,h f fd F⟩
def Dc.cl {x q:Str} {st:adZ} {C:Addr} {ps:List Str} {k:Nat} {sp:Sp} (D:Dc K mg x q st C ps) (h: ∀f fd,Lk K "__init__" q st f fd->El K C->kO P w K mg base Lm k f fd ps sp):Cl P w K mg base x C k ps sp:=by
 obtain ⟨f,fd,F,hm,M,hb,c⟩:=D;exact ⟨f,fd,hm,M,hb,h f fd F c⟩
end
section
variable {X:Cx} {x:Str} {k:Nat} {ps:List Str} {sp:Sp} {p pos:Pos} {e:adS} {es:List adS} {t:TA} {C:Addr}
def pc (G:Fn X.prog X.w X.K X.mg X.base x k ps sp) (hr:iu k X.A) (ha:PA X (e::es) t) (hg:Gl X x:=by rfl) (DO:(x==("__debug__" :Str))=false:=by decide) (he:adU (e::es) X.env=(false,eval e X.env)::adU es X.env:=by rfl)
  (hpl:(ad2 pos (adU es X.env)).any (·.1)=false:=by rfl):PE X (.Call (.Name x p) (e::es) [] pos) (Ep sp [] E0 t):=by
 obtain ⟨f,fd,hm,kp,hb,F⟩:=G;exact MN F hr hg hm kp hb .nil E2 ha DO he hpl
def Ly (G:Cl X.prog X.w X.K X.mg X.base x C k ps sp) (hr:iu (k+1) X.A) (ha:PA X (e::es) t) (hg:Gl X x:=by rfl) (DO:(x==("__debug__" :Str))=false:=by decide) (he:adU (e::es) X.env=(false,eval e X.env)::adU es X.env:=by rfl)
  (hpl:(ad2 pos (adU es X.env)).any (·.1)=false:=by rfl):PE X (.Call (.Name x p) (e::es) [] pos) (Eo C sp [] E0 t):=by
 obtain ⟨f,fd,hm,M,hb,F⟩:=G;exact ML M F hr hg hm hb .nil E2 ha DO he hpl
def Xn (G:Cl X.prog X.w X.K X.mg X.base x C k ps sp) (hr:iu (k+1) X.A) (hg:Gl X x:=by rfl) (DO:(x==("__debug__" :Str))=false:=by decide):PE X (.Call (.Name x p) [] [] pos) (Eo C sp [] E0 oZ):=by
 obtain ⟨f,fd,hm,M,hb,F⟩:=G;exact Js M F hr hg hm hb .nil E2 DO
def kG {n:Int} (c:Ci X.mg x n) (hg:Gl X x:=by rfl) (hd:(x==("__debug__" :Str))=false:=by decide):PE X (.Name x pos) (tC (.int n)):=by
 obtain ⟨u,hm,r⟩:=c;exact EZ hg hm r hd
end
def top (i:Nat):adZ:=Ri.main.body.getD i (.Pass ⟨0,0,0,0⟩)
end Lf
namespace Lf
open Vbahaf (fareNumbers cut srcOf dstOf dayOf points single outward homeward pay)
def fL (g:bT):List Int:= [g.carrier,g.src,g.dst,g.day,g.cls]
section
variable (K:aa) (H:Hp)
structure dB (a:Addr) (f:aq):Prop where
 key:gM K H a "key" (.int f.key)
 carrier:gM K H a "carrier" (.int f.carrier)
 near:gM K H a "near" (.int f.src)
 RO:gM K H a "far" (.int f.dst)
 way:gM K H a "way" (.int f.way)
 amount:gM K H a "amount" (.int f.amount)
 classes:gM K H a "classes" (.int f.classes)
 weekdays:gM K H a "weekdays" (.int f.weekdays)
 mo:gM K H a "days_ahead" (.int f.ahead)
 mi:gM K H a "least_stay" (.int f.leastStay)
 oO:gM K H a "most_stay" (.int f.mostStay)
 group:gM K H a "group" (.int f.group)
 oK:gM K H a "open_ends" (.int f.open_)
 kinds:gM K H a "kinds" (.int f.kinds)
 iS:gM K H a "most_segments" (.int f.segs)
def wc (z:Addr) (f:aq) (a:Addr):Prop:= ∃l,l≠z/\gM K H a "numbers" (.ref l)/\H l=some (.lst ((fareNumbers f).map V.int))
structure jn (a:Addr) (g:bT):Prop where
 carrier:gM K H a "carrier" (.int g.carrier)
 origin:gM K H a "origin" (.int g.src)
 target:gM K H a "target" (.int g.dst)
 day:gM K H a "day" (.int g.day)
 ub:gM K H a "booking" (.int g.cls)
def FL (b:List Addr) (a:Addr) (g:bT):Prop:= ∃l,l∉b/\gM K H a "numbers" (.ref l)/\H l=some (.lst ((fL g).map V.int))
structure mw (b:List Addr) (a:Addr) (j:ai):Prop where
 now:gM K H a "now" (.int j.now)
 segs: ∃l as,l∉b/\gM K H a "segments" (.ref l)/\H l=some (.lst (as.map V.ref))/\bQ (jn K H) as j.segs/\bQ (FL K H b) as j.segs
structure eJ (B:Addr->Prop) (s:ag) (j:ai) (i e:Nat) (a:Addr):Prop where
 ok:i<e/\e<=j.segs.length
 first:gM K H a "first" (.int i)
 last:gM K H a "last" (.int ((e:Int)-1))
 segs: ∃l as, ¬B l/\gM K H a "segments" (.ref l)/\H l=some (.lst (as.map V.ref))/\bQ (jn K H) as (cut j i e)
 origin:gM K H a "origin" (.int (srcOf (cut j i e)))
 target:gM K H a "target" (.int (dstOf (cut j i e)))
 day:gM K H a "day" (.int (dayOf (cut j i e)))
 yf:gM K H a "days_left" (.int (dayOf (cut j i e)-j.now))
 floor: ∃v,gM K H a "floor" (.int v)/\ue s (points (cut j i e)) v
def mv (s:ag) (af:Int) (c:cG) (p:Addr) (f:aq):Prop:= ∃fa,H p=some (.tup [.int (pay s af f c), .ref fa])/\dB K H fa f
def gj (B:Addr->Prop) (s:ag) (af:Int) (c:cG) (l:Addr) (fs:List aq):Prop:= ¬B l/\∃ps,H l=some (.lst (ps.map V.ref))/\bQ (mv K H s af c) ps fs
structure dA (B:Addr->Prop) (s:ag) (fl:List aq) (j:ai) (af:Int) (i e:Nat) (a:Addr):Prop where
 comp: ∃ca,gM K H a "component" (.ref ca)/\eJ K H B s j i e ca
 singles: ∃l,gM K H a "singles" (.ref l)/\gj K H B s af (cut j i e) l (fl.filter λf=>single j af f (cut j i e))
 outs: ∃l,gM K H a "outs" (.ref l)/\gj K H B s af (cut j i e) l (fl.filter λf=>outward j af f (cut j i e))
 T3: ∃l,gM K H a "homes" (.ref l)/\gj K H B s af (cut j i e) l (fl.filter λf=>homeward j af f (cut j i e))
end
def nO (x:cQ×Int×Option cQ):List Int:= [x.1.1,(x.1.2:Int)-1,x.2.1,match x.2.2 with
 |none=> -1
 |some p=>p.1]
section
variable (K:aa) (H:Hp)
structure eK (B:Addr->Prop) (s:ag) (j:ai) (af:Int) (a:Addr) (u:Un):Prop where
 xD:(tE s j af u).isSome=true
 u7:gM K H a "paid" (.int (pd s j af u))
 parts: ∃l ps, ¬B l/\gM K H a "parts" (.ref l)/\H l=some (.lst (ps.map V.ref))/\bQ (λp x=>H p=some (.tup ((nO x).map V.int))) ps (j3 s j af u)
 vX:gM K H a "covers" (.int (eD u))
end
section
variable {K:aa} {H H':Hp}
def dB.mono {a:Addr} {f:aq} (h:dB K H a f) (s:aB H H'):dB K H' a f:=
 ⟨h.key.mono s,h.carrier.mono s,h.near.mono s,h.RO.mono s,h.way.mono s,h.amount.mono s,h.classes.mono s,h.weekdays.mono s,h.mo.mono s,h.mi.mono s,h.oO.mono s,h.group.mono s,h.oK.mono s,h.kinds.mono s,h.iS.mono s⟩
def gM.but {a l:Addr} {f:Str} {v:V} {o:HO} (h:gM K H a f v) (hl:H l=some o) (ho: ∀C dx fs,o≠ .ins C dx fs) (b:dH l H H'):gM K H' a f v:=by
 obtain ⟨C,dx,fs,h1,h2⟩:=h;exact ⟨C,dx,fs,b _ _ (cg h1 hl λz=>ho _ _ _ z.symm) h1,h2⟩
def dB.but {a l:Addr} {f:aq} {o:HO} (h:dB K H a f) (hl:H l=some o) (ho: ∀C dx fs,o≠ .ins C dx fs) (s:dH l H H'):dB K H' a f:=
 ⟨h.key.but hl ho s,h.carrier.but hl ho s,h.near.but hl ho s,h.RO.but hl ho s,h.way.but hl ho s,h.amount.but hl ho s,h.classes.but hl ho s,h.weekdays.but hl ho s,h.mo.but hl ho s,h.mi.but hl ho s,h.oO.but hl ho s,h.group.but hl ho s,h.oK.but hl ho s,h.kinds.but hl ho s,h.iS.but hl ho s⟩
def wc.mono {z a:Addr} {f:aq} (h:wc K H z f a) (s:aB H H'):wc K H' z f a:=by
 obtain ⟨l,h0,h1,h2⟩:=h;exact ⟨l,h0,h1.mono s,s _ _ h2⟩
def jn.mono {a:Addr} {g:bT} (h:jn K H a g) (s:aB H H'):jn K H' a g:=
 ⟨h.carrier.mono s,h.origin.mono s,h.target.mono s,h.day.mono s,h.ub.mono s⟩
def jn.but {a l:Addr} {g:bT} {o:HO} (h:jn K H a g) (hl:H l=some o) (ho: ∀C dx fs,o≠ .ins C dx fs) (s:dH l H H'):jn K H' a g:=
 ⟨h.carrier.but hl ho s,h.origin.but hl ho s,h.target.but hl ho s,h.day.but hl ho s,h.ub.but hl ho s⟩
def FL.mono {b:List Addr} {a:Addr} {g:bT} (h:FL K H b a g) (s:aB H H'):FL K H' b a g:=by
 obtain ⟨l,h0,h1,h2⟩:=h;exact ⟨l,h0,h1.mono s,s _ _ h2⟩
def mw.mono {b:List Addr} {a:Addr} {j:ai} (h:mw K H b a j) (s:aB H H'):mw K H' b a j:=by
 obtain ⟨n,l,as,h0,h1,h2,h3,h4⟩:=h;exact ⟨n.mono s,l,as,h0,h1.mono s,s _ _ h2,h3.mono λ_ _ z=>z.mono s,h4.mono λ_ _ z=>z.mono s⟩
section
variable {B B':Addr->Prop} {st:ag} {fl:List aq} {j:ai} {af:Int} {c:cG} {i e:Nat} {a p l:Addr} {f:aq} {fs:List aq} {u:Un} {xs:List V}
def eJ.mono (h:eJ K H B st j i e a) (s:aB H H'):eJ K H' B st j i e a:=by
 obtain ⟨h0,h1,h2,⟨l,as,hb,h3,h4,h5⟩,h6,h7,h8,h9,v,Nl,Nk⟩:=h;exact ⟨h0,h1.mono s,h2.mono s,⟨l,as,hb,h3.mono s,s _ _ h4,h5.mono λ_ _ z=>z.mono s⟩,h6.mono s,h7.mono s,h8.mono s,h9.mono s,v,Nl.mono s,Nk⟩
def eJ.weak (h:eJ K H B st j i e a) (k: ∀b,B' b->B b):eJ K H B' st j i e a:=by
 obtain ⟨l,as,hb,h3⟩:=h.segs;exact ⟨h.ok,h.first,h.last,⟨l,as,λz=>hb (k _ z),h3⟩,h.origin,h.target,h.day,h.yf,h.floor⟩
def eJ.but (h:eJ K H B st j i e a) (hB:B l) (hl:H l=some (.lst xs)) (s:dH l H H'):eJ K H' B st j i e a:=by
 have ho: ∀C dx fs,HO.lst xs≠ .ins C dx fs:=λ_ _ _ z=>nomatch z;obtain ⟨h0,h1,h2,⟨l',as,hb,h3,h4,h5⟩,h6,h7,h8,h9,v,Nl,Nk⟩:=h;exact ⟨h0,h1.but hl ho s,h2.but hl ho s,⟨l',as,hb,h3.but hl ho s,s _ _ (λz=>hb (by rw [z];exact hB)) h4,h5.mono λ_ _ z=>z.but hl ho s⟩,h6.but hl ho s,h7.but hl ho s,h8.but hl ho s,h9.but hl ho s,v,Nl.but hl ho s,Nk⟩
def mv.mono (h:mv K H st af c p f) (s:aB H H'):mv K H' st af c p f:=by
 obtain ⟨fa,h1,h2⟩:=h;exact ⟨fa,s _ _ h1,h2.mono s⟩
def mv.but (h:mv K H st af c p f) (hl:H l=some (.lst xs)) (s:dH l H H'):mv K H' st af c p f:=by
 obtain ⟨fa,h1,h2⟩:=h;exact ⟨fa,s _ _ (cg h1 hl λz=>nomatch z) h1,h2.but hl (λ_ _ _ z=>nomatch z) s⟩
def gj.mono (h:gj K H B st af c l fs) (s:aB H H'):gj K H' B st af c l fs:=by
 obtain ⟨h0,ps,h1,h2⟩:=h;exact ⟨h0,ps,s _ _ h1,h2.mono λ_ _ z=>z.mono s⟩
def gj.weak (h:gj K H B st af c l fs) (k: ∀b,B' b->B b):gj K H B' st af c l fs:=⟨λz=>h.1 (k _ z),h.2⟩
def gj.but (h:gj K H B st af c l fs) (hB:B p) (hl:H p=some (.lst xs)) (s:dH p H H'):gj K H' B st af c l fs:=by
 obtain ⟨h0,ps,h1,h2⟩:=h;exact ⟨h0,ps,s _ _ (λz=>h0 (by rw [z];exact hB)) h1,h2.mono λ_ _ z=>z.but hl s⟩
def dA.mono (h:dA K H B st fl j af i e a) (s:aB H H'):dA K H' B st fl j af i e a:=by
 obtain ⟨⟨ca,h1,h2⟩,⟨l1,h3,h4⟩,⟨l2,h5,h6⟩,⟨l3,h7,h8⟩⟩:=h;exact ⟨⟨ca,h1.mono s,h2.mono s⟩,⟨l1,h3.mono s,h4.mono s⟩,⟨l2,h5.mono s,h6.mono s⟩,⟨l3,h7.mono s,h8.mono s⟩⟩
def dA.weak (h:dA K H B st fl j af i e a) (k: ∀b,B' b->B b):dA K H B' st fl j af i e a:=by
 obtain ⟨⟨ca,h1,h2⟩,⟨l1,h3,h4⟩,⟨l2,h5,h6⟩,⟨l3,h7,h8⟩⟩:=h;exact ⟨⟨ca,h1,h2.weak k⟩,⟨l1,h3,h4.weak k⟩,⟨l2,h5,h6.weak k⟩,⟨l3,h7,h8.weak k⟩⟩
def dA.but (h:dA K H B st fl j af i e a) (hB:B l) (hl:H l=some (.lst xs)) (s:dH l H H'):dA K H' B st fl j af i e a:=by
 have ho: ∀C dx fs,HO.lst xs≠ .ins C dx fs:=λ_ _ _ z=>nomatch z;obtain ⟨⟨ca,h1,h2⟩,⟨l1,h3,h4⟩,⟨l2,h5,h6⟩,⟨l3,h7,h8⟩⟩:=h;exact ⟨⟨ca,h1.but hl ho s,h2.but hB hl s⟩,⟨l1,h3.but hl ho s,h4.but hB hl s⟩,⟨l2,h5.but hl ho s,h6.but hB hl s⟩,⟨l3,h7.but hl ho s,h8.but hB hl s⟩⟩
def eK.mono (h:eK K H B st j af a u) (s:aB H H'):eK K H' B st j af a u:=by
 obtain ⟨h0,h1,⟨l,ps,hb,h2,h3,h4⟩,h5⟩:=h;exact ⟨h0,h1.mono s,⟨l,ps,hb,h2.mono s,s _ _ h3,h4.mono λ_ _ z=>s _ _ z⟩,h5.mono s⟩
def eK.weak (h:eK K H B st j af a u) (k: ∀b,B' b->B b):eK K H B' st j af a u:=by
 obtain ⟨h0,h1,⟨l,ps,hb,h2⟩,h5⟩:=h;exact ⟨h0,h1,⟨l,ps,λz=>hb (k _ z),h2⟩,h5⟩
def eK.but (h:eK K H B st j af a u) (hB:B p) (hl:H p=some (.lst xs)) (s:dH p H H'):eK K H' B st j af a u:=by
 have ho: ∀C dx fs,HO.lst xs≠ .ins C dx fs:=λ_ _ _ z=>nomatch z;obtain ⟨h0,h1,⟨l,ps,hb,h2,h3,h4⟩,h5⟩:=h;exact ⟨h0,h1.but hl ho s,⟨l,ps,hb,h2.but hl ho s,s _ _ (λz=>hb (by rw [z];exact hB)) h3,h4.mono λ_ _ z=>s _ _ (cg z hl λz=>nomatch z) z⟩,h5.but hl ho s⟩
end
end
structure HA where
 a:Addr
 dx:Addr
 C:Addr
 f:Addr
 t:Addr
 o:Addr
 x:Addr
 p:Addr
 z:Addr
def HA.bn (h:HA):List Addr:= [h.p,h.z]
def HA.foot (h:HA):List Addr:= [h.a,h.f,h.t,h.o,h.x,h.p]
def LJ (h:HA) (u:Int) (jv:V):List (Str×V):= [("fares", .ref h.f),("together", .ref h.t),("floors", .ref h.o),("taxes", .ref h.x),("percents", .ref h.p),("unit", .int u),("journey",jv)]
def GO (fl:List aq) (gO:List Addr):List (Key×V):=(fl.zip gO).map λx=>(az x.1.key,V.ref x.2)
structure Vf (K:aa) (C:Addr):Prop where
 cl:El K C
 n1:bF K C "fares"
 n2:bF K C "together"
 n3:bF K C "floors"
 n4:bF K C "taxes"
 n5:bF K C "percents"
 n6:bF K C "unit"
 n7:bF K C "journey"
structure ba (K:aa) (H:Hp) (h:HA) (s:ag) (fl:List aq):Prop where
 ok:kM s
 hc:Vf K h.C
 perm:fl.Perm s.fares
 inst: ∃jv,H h.a=some (.ins h.C h.dx (LJ h s.unit jv))/\match s.journey with
  |none=>jv= .fY
  |some j=> ∃ja,jv= .ref ja/\mw K H h.bn ja j
 fares: ∃gO,H h.f=some (.dK (GO fl gO))/\bQ (λf a=>dB K H a f) fl gO/\bQ (wc K H h.z) fl gO
 groups: ∃kvs:List (List Key×V),H h.t=some (.dT kvs)/\(kvs.map (·.1)).Nodup/\(∀k∈kvs.map (·.1), ∃g g':Int,k= [az g,az g']/\0<=g/\g<=7/\0<=g'/\g'<=7)/\∀g g':Int,(cx kvs [az g,az g']).getD (.bl false)= .bl (s.combos.contains (g,g'))
 floors: ∃kvs:List (List Key×V),H h.o=some (.dT kvs)/\kvs.Perm (s.floors.map λx=>([az x.1,az x.2.1],V.int x.2.2))
 taxes: ∃kvs:List (Key×V),H h.x=some (.dK kvs)/\kvs.Perm (s.taxes.map λx=>(az x.1,V.int x.2))
 percents:H h.p=some (.lst (s.percents.map V.int))
 ne1:h.f≠h.x
 ne2:h.t≠h.o
section
variable {K:aa} {H H':Hp} {h:HA} {s:ag} {fl:List aq}
def ba.mono (x:ba K H h s fl) (e:aB H H'):ba K H' h s fl:=by
 obtain ⟨ok,hc,perm,⟨jv,i1,i2⟩,⟨gO,f1,f2,f3⟩,⟨kt,t1,t2⟩,⟨ko,o1,o2⟩,⟨kx,x1,x2⟩,p,n1,n2⟩:=x;refine ⟨ok,hc,perm,⟨jv,e _ _ i1,?_⟩,⟨gO,e _ _ f1,f2.mono λ_ _ z=>z.mono e,f3.mono λ_ _ z=>z.mono e⟩,⟨kt,e _ _ t1,t2⟩,⟨ko,e _ _ o1,o2⟩,⟨kx,e _ _ x1,x2⟩,e _ _ p,n1,n2⟩;cases q:s.journey with
 |none=>rw [q] at i2;exact i2
 |some j=>
  rw [q] at i2;obtain ⟨ja,z1,z2⟩:=i2;exact ⟨ja,z1,z2.mono e⟩
def ba.hZ (x:ba K H h s fl):gM K H h.a "fares" (.ref h.f):=by
 obtain ⟨jv,i1,_⟩:=x.inst;exact ⟨_,_,_,i1,x.hc.cl,x.hc.n1,rfl⟩
def ba.yd (x:ba K H h s fl):gM K H h.a "together" (.ref h.t):=by
 obtain ⟨jv,i1,_⟩:=x.inst;exact ⟨_,_,_,i1,x.hc.cl,x.hc.n2,rfl⟩
def ba.Fq (x:ba K H h s fl):gM K H h.a "floors" (.ref h.o):=by
 obtain ⟨jv,i1,_⟩:=x.inst;exact ⟨_,_,_,i1,x.hc.cl,x.hc.n3,rfl⟩
def ba.KU (x:ba K H h s fl):gM K H h.a "taxes" (.ref h.x):=by
 obtain ⟨jv,i1,_⟩:=x.inst;exact ⟨_,_,_,i1,x.hc.cl,x.hc.n4,rfl⟩
def ba.ye (x:ba K H h s fl):gM K H h.a "percents" (.ref h.p):=by
 obtain ⟨jv,i1,_⟩:=x.inst;exact ⟨_,_,_,i1,x.hc.cl,x.hc.n5,rfl⟩
def ba.ON (x:ba K H h s fl):gM K H h.a "unit" (.int s.unit):=by
 obtain ⟨jv,i1,_⟩:=x.inst;exact ⟨_,_,_,i1,x.hc.cl,x.hc.n6,rfl⟩
def ba.dS (x:ba K H h s fl) {j:ai} (e:s.journey=some j): ∃ja,gM K H h.a "journey" (.ref ja)/\mw K H h.bn ja j:=by
 obtain ⟨jv,i1,i2⟩:=x.inst;rw [e] at i2;obtain ⟨ja,rfl,z⟩:=i2;exact ⟨ja,⟨_,_,_,i1,x.hc.cl,x.hc.n7,rfl⟩,z⟩
def ba.fh (x:ba K H h s fl) (e:s.journey=none):gM K H h.a "journey" .fY:=by
 obtain ⟨jv,i1,i2⟩:=x.inst;rw [e] at i2;subst i2;exact ⟨_,_,_,i1,x.hc.cl,x.hc.n7,rfl⟩
end
end Lf
namespace Lf
open Vbahaf (rowLess least)
def Bj: ∀(a b:List Int),HT.lexLt a b=rowLess a b
 | [],[]=>rfl
 | [],_::_=>rfl
 |_::_,[]=>rfl
 |a::r,b::s=>by
  rw [HT.vo,Bj r s];show _=(decide (a<b)||(decide (a=b)&&rowLess r s))
  by_cases h:a=b
  ·rw [if_pos h];subst h;simp
  ·rw [if_neg h];simp [h]
def Fb: ∀(a b:List Int),tm a b=rowLess a b
 | [],[]=>rfl
 | [],_::_=>rfl
 |_::_,[]=>rfl
 |a::r,b::s=>by
  rw [show tm (a::r) (b::s)=(if a=b then tm r s else decide (a<b)) from rfl,Fb r s];show _=(decide (a<b)||(decide (a=b)&&rowLess r s))
  by_cases h:a=b
  ·rw [if_pos h];subst h;simp
  ·rw [if_neg h];simp [h]
def zZ (rs:List (List Int)) (i j:Nat):Bool:=rowLess (rs.getD i []) (rs.getD j [])
def nU (rs:List (List Int)): ∀(k:Nat),ad5 (zZ rs) k<=k/\∀i,i<=k->rowLess (rs.getD i []) (rs.getD (ad5 (zZ rs) k) [])=false
 |0=>⟨ay _,λi hi=>by
  have e:i=0:=by omega
  subst e;exact fX _⟩
 |k+1=>by
  obtain ⟨h1,h2⟩:=nU rs k;unfold ad5;cases h:zZ rs (k+1) (ad5 (zZ rs) k) with
  |true=>
   rw [if_pos rfl];refine ⟨ay _,λi hi=>?_⟩;by_cases e:i=k+1
   ·subst e;exact fX _
   ·cases q:rowLess (rs.getD i []) (rs.getD (k+1) []) with
    |false=>rfl
    |true=>
     have:=qz q h;rw [h2 i (by omega)] at this;cases this
  |false=>
   rw [if_neg aJ];refine ⟨by omega,λi hi=>?_⟩;by_cases e:i=k+1
   ·subst e;exact h
   ·exact h2 i (by omega)
def xl {rs:List (List Int)} {r:List Int} (gp:0<rs.length) (h:rs[ad5 (zZ rs) (rs.length-1)]?=some r):least rs=some r:=by
 obtain ⟨h1,h2⟩:=nU rs (rs.length-1);rw [cu];refine ⟨aI h,λx hx=>?_⟩;obtain ⟨i,hi⟩:=gN hx;have hl:=(aK.mp hi).1;have:=h2 i (by omega);rw [bj,bj,h,hi] at this;exact this
section
variable {P:adT} {w:adQ} {A:adW} {E:Value->adN->Prop} {s:adN} {Q:Value->adN->Prop}
def PV (hh:A.handled=none) {a b:Value} (bt:Nat->Nat->Bool) (cmp:Ek P w A.in1 s.heap (λi v=>(#[a,b]:Array Value)[i]?=some v) bt)
  (h: ∀h' tk,(∀c o,s.heap.get? c=some o->h'.get? c=some o)->Q (if bt 1 0=true then b else a) {s with heap:=h',toks:=tk}):
  wpAny (adR P w) A (call (.builtin "min") [a,b]) Q E s:=by
 refine Ec (kw:= []) sn ra rb (PySem.F.args_min2 _ _) ?_;show wpAny _ A.in1 (Builtin.Builtins.bindParams "min" ["key","default"] 0 ⟨[],[]⟩>>=_) _ _ s;refine adP (ae6 (show Builtin.Builtins.bindParams "min" ["key","default"] 0 ⟨[],[]⟩=pure [none,none] from rfl) ?_);show wpAny _ A.in1 (newTuple [a,b] >>=_) _ _ s;refine adP (aeS ?_);have hT:(s.heap.push {cls:= .type "tuple",data:= .seq #[a,b]}).IsTuple s.heap.objs.size #[a,b]:=⟨_,Heap.get?_push_size _ rfl,rfl,0,rfl⟩
 refine adP (wpAny_pyIter_tuple hT ?_);refine adP (aeS ?_);have sz:(s.heap.push {cls:= .type "tuple",data:= .seq #[a,b]}).objs.size=s.heap.objs.size+1:=Heap.size_push ..;have WX:((s.heap.push {cls:= .type "tuple",data:= .seq #[a,b]}).push {cls:= .type "tuple_iterator",data:= .fields #[.ref s.heap.objs.size, .int 0 0]}).objs.size=s.heap.objs.size+2:=by
  rw [Heap.size_push,sz]
 have W:=Walks.tuple (prog:=P) (w:=w) (A:=A.in1) hh (s.heap.push {cls:= .type "tuple",data:= .seq #[a,b]}).objs.size s.heap.objs.size (by rw [sz];exact bH (fP _)) #[a,b];have e1:(Heap.get? s.heap (s.heap.objs.size+1))=none:=Heap.get?_none_of_le (lT _);have e2:(Heap.get? s.heap (s.heap.objs.size+2))=none:=Heap.get?_none_of_le (by omega);rw [oN];refine adV ⟨aet ci _,?_⟩;refine JE (h0:=s.heap) W bt cmp _ (λz=>?_) (by rw [WX];exact e2) (λb hb=>?_) (by simp)
  ⟨⟨_,Heap.get?_push_of_some _ (Heap.get?_push_size _ rfl),rfl,rfl⟩,(hT.push _).push _⟩ (λb o e=>Heap.get?_push_of_some _ (Heap.get?_push_of_some _ (Heap.get?_push_of_some _ e))) (Heap.get?_push_size _ rfl) λv h' tk g k=>?_
 ·rw [WX,sz] at z;rcases aD.mp z with e|z
  ·exact absurd (show (s.heap.objs.size+2:Nat)=s.heap.objs.size+1 from e) (by omega)
  ·exact absurd (show (s.heap.objs.size+2:Nat)=s.heap.objs.size from aP.mp z) (by omega)
 ·rw [aP.mp hb,sz];exact e1
 ·have g:(#[a,b]:Array Value)[ad5 bt 1]?=some v:=g;have hv:v=if bt 1 0=true then b else a:=by
   unfold ad5 ad5 at g;cases q:bt 1 0 with
   |true=>rw [q,if_pos rfl] at g;rw [if_pos rfl];simpa using g.symm
   |false=>rw [q,if_neg aJ] at g;rw [if_neg aJ];simpa using g.symm
  rw [hv];refine h h' tk λb o e=>k b o (λz=>?_) (λz=>?_) (Heap.get?_push_of_some _ (Heap.get?_push_of_some _ (Heap.get?_push_of_some _ e)))
  ·rw [aP.mp z,sz,e1] at e;cases e
  ·rw [z,WX,e2] at e;cases e
end
section
variable {X:Cx} {pins:List (Addr×Obj)} {σ:L2.St} {H:Hp} {s:adN}
def BZ (K:aa) (H:Hp) (ps:List Addr) (rs:List (List Int)):Prop:=bQ (λp r=>zK K H p (r.map V.int)) ps rs
def OW (H:Hp) (ps:List Addr) (rs:List (List Int)):Prop:=bQ (λp r=>H p=some (.lst (r.map V.int))) ps rs
def Q1 (I:Inv X pins σ H s) (hu:X.A.units+64<ad0) {ps:List Addr} {rs:List (List Int)} {its:List Value} (hR:BZ X.K H ps rs) (rv:Vals (ps.map V.ref) its):
  Ek X.prog X.w X.A.in1 s.heap (λi v=>its.toArray[i]?=some v) (zZ rs):=by
 intro i j x y s' Q E kp gx gy q;have key: ∀{i:Nat} {x:Value},its.toArray[i]?=some x->∃p r,rs[i]?=some r/\x= .ref p/\zK X.K H p (r.map V.int):=λ{i x} g=>by
  have g:its[i]?=some x:=by simpa using g
  have hl:=rv.length;rw [ab] at hl;have hi:i<ps.length:=by rw [hl];exact (aK.mp g).1
  obtain ⟨u,zp,GT⟩:=rv.get (bC (ao hi));rw [g] at zp;cases zp;obtain ⟨r,LG,GU⟩:=hR.get' (ao hi);exact ⟨_,r,LG,GT,GU⟩
 obtain ⟨p,r,hr,rfl,hp⟩:=key gx;obtain ⟨p',r',x8,rfl,Fi⟩:=key gy;obtain ⟨t1,r1,p1,_⟩:=I.tuple hp;obtain ⟨t2,r2,p2,_⟩:=I.tuple Fi;have p1':IsTup s'.heap p t1.toArray:=by obtain ⟨o,e,c⟩:=p1;exact ⟨o,kp _ _ e,c⟩
 have p2':IsTup s'.heap p' t2.toArray:=by obtain ⟨o,e,c⟩:=p2;exact ⟨o,kp _ _ e,c⟩
 have i1:IntsAre t1.toArray.toList r:=intsAre_of r1;have i2:IntsAre t2.toArray.toList r':=intsAre_of r2;refine HT.DA p1' p2' i1 i2 (show X.A.units+1<ad0 by omega) ?_;rw [Bj];have:zZ rs i j=rowLess r r':=by unfold zZ;rw [bj,bj,hr,x8];rfl
 rw [<-this];exact q
def Y5 (I:Inv X pins σ H s) (hu:X.A.units+64<ad0) {ps:List Addr} {rs:List (List Int)} {its:List Value} (hR:OW H ps rs) (rv:Vals (ps.map V.ref) its):
  Ek X.prog X.w X.A.in1 s.heap (λi v=>its.toArray[i]?=some v) (zZ rs):=by
 intro i j x y s' Q E kp gx gy q;have key: ∀{i:Nat} {x:Value},its.toArray[i]?=some x->∃p r,rs[i]?=some r/\x= .ref p/\H p=some (.lst (r.map V.int)):=λ{i x} g=>by
  have g:its[i]?=some x:=by simpa using g
  have hl:=rv.length;rw [ab] at hl;have hi:i<ps.length:=by rw [hl];exact (aK.mp g).1
  obtain ⟨u,zp,GT⟩:=rv.get (bC (ao hi));rw [g] at zp;cases zp;obtain ⟨r,LG,GU⟩:=hR.get' (ao hi);exact ⟨_,r,LG,GT,GU⟩
 obtain ⟨p,r,hr,rfl,hp⟩:=key gx;obtain ⟨p',r',x8,rfl,Fi⟩:=key gy;obtain ⟨_,t1,n1,r1,e1⟩:=(show dZ X.prog X.w H s.heap p (.lst (r.map V.int)) from I.cO _ _ hp)
 obtain ⟨_,t2,n2,r2,e2⟩:=(show dZ X.prog X.w H s.heap p' (.lst (r'.map V.int)) from I.cO _ _ Fi)
 refine DB (kp _ _ e1) (kp _ _ e2) (intsAre_of (by simpa using r1)) (intsAre_of (by simpa using r2)) (show X.A.units+1<ad0 by omega) ?_;rw [Fb];have:zZ rs i j=rowLess r r':=by unfold zZ;rw [bj,bj,hr,x8];rfl
 rw [<-this];exact q
end
def Om (K:aa) (rows:Hp->List Addr->List (List Int)->Prop):List V->Hp->VK->Prop:=λvs H Q=> ∃(a:Addr) (ps:List Addr) (rs:List (List Int)),vs= [V.ref a]/\iF K H a (ps.map V.ref)/\rows H ps rs/\0<ps.length/\
 ∀(i:Nat) (p:Addr) (r:List Int),ps[i]?=some p->rs[i]?=some r->least rs=some r->Q (.ref p) H
section
variable {X:Cx}
def vi {pins:List (Addr×Obj)} {σ:L2.St} {H:Hp} {s:adN} {Q:VK} (hc:X.calm=true) (I:Inv X pins σ H s) {a:Addr} {ps:List Addr} {rs:List (List Int)} (hs:iF X.K H a (ps.map V.ref)) (hlen:ps.length=rs.length)
  (cmp: ∀its,Vals (ps.map V.ref) its->Ek X.prog X.w X.A.in1 s.heap (λi v=>its.toArray[i]?=some v) (zZ rs)) (gp:0<ps.length) {kw:List (Str×Value)} (hkw:kw= []∨∃d,kw= [(Str.ofString "default",d)])
  (q: ∀(i:Nat) (p:Addr) (r:List Int),ps[i]?=some p->rs[i]?=some r->least rs=some r->Q (.ref p) H):
  wpAny (adR X.prog X.w) X.A (call (.builtin "min") [.ref a] kw) (EP X pins σ Q) X.xe s:=by
 obtain ⟨its,rv,hl,_⟩:=I.list hs;have Ct:=rv.length;rw [ab] at Ct;refine M0 (I.ok.hd hc) hl.isList (zZ rs) (cmp its rv) (by omega) hkw λv h' tk hv hk=>?_;have e:its.length=rs.length:=by omega
 rw [e] at hv;obtain ⟨b1,b2⟩:=nU rs (rs.length-1);have hi:ad5 (zZ rs) (rs.length-1)<ps.length:=by omega
 have hp:=ao hi;have hr:rs[ad5 (zZ rs) (rs.length-1)]?=some (rs[ad5 (zZ rs) (rs.length-1)]'(by omega)):=ao (by omega);obtain ⟨u,zp,GT⟩:=rv.get (bC hp);rw [hv] at zp;cases zp;obtain rfl:v=Value.ref _:=GT;exact ⟨.ref _,H,I.kept hk,rfl,q _ _ _ hp hr (xl (by omega) hr)⟩
def NO (hc:X.calm=true) (hu:X.A.units+64<ad0):jZ X (.builtin "min") (Om X.K (BZ X.K)):=by
 intro pins s σ H vs us Q I r h;obtain ⟨a,ps,rs,rfl,hs,hR,gp,q⟩:=h;rw [Vals.yZ r];exact vi hc I hs hR.1 (λits rv=>Q1 I hu hR rv) gp (.inl rfl) q
def NP (hc:X.calm=true) (hu:X.A.units+64<ad0):jZ X (.builtin "min") (Om X.K OW):=by
 intro pins s σ H vs us Q I r h;obtain ⟨a,ps,rs,rfl,hs,hR,gp,q⟩:=h;rw [Vals.yZ r];exact vi hc I hs hR.1 (λits rv=>Y5 I hu hR rv) gp (.inl rfl) q
def Sd (K:aa) (te:TE):TE:=λσ H Q=>te σ H λx H1=> ∃(a:Addr) (ps:List Addr) (rs:List (List Int)),x= .ref a/\iF K H1 a (ps.map V.ref)/\BZ K H1 ps rs/\
 (ps= []->Q .fY H1)/\∀(i:Nat) (p:Addr) (r:List Int),ps[i]?=some p->rs[i]?=some r->least rs=some r->Q (.ref p) H1
def EY {e:adS} {te:TE} {p pos DI fi:Pos} {k:Nat} (hc:X.calm=true) (hu:X.A.units+64<ad0) (hm:X.mg "min" =none) (he:PE X e te) (hg:Gl X "min" :=by rfl) (hs:adU [e] X.env= [(false,eval e X.env)]:=by rfl):
  PE X (.Call (.Name "min" p) [e] [⟨some "default", .Constant .none k fi,DI⟩] pos) (Sd X.K te):=by
 intro pins s σ H Q I h;refine aez (mj I hg hm ii ?_);have hA:PA X [e] (iC te oZ):=ae he ax hs;have hK:PK X [⟨some "default", .Constant .none k fi,DI⟩] (iC (tC .fY) oZ):=EV l8 Jp;refine callWith_kw (he:=by rw [hs];rfl) (hplain:=by rw [hs];rfl) (hall:=rfl) (hkw:=rfl) ?_;refine dJ (hA pos pins s σ H (λvs H1=>match vs with
  | [x]=> ∃(a:Addr) (ps:List Addr) (rs:List (List Int)),x= .ref a/\iF X.K H1 a (ps.map V.ref)/\BZ X.K H1 ps rs/\
   (ps= []->Q .fY H1)/\∀(i:Nat) (p:Addr) (r:List Int),ps[i]?=some p->rs[i]?=some r->least rs=some r->Q (.ref p) H1
  |_=>False) I h) λus s1 ⟨vs,H1,I1,r1,q1⟩=>?_
 ·match vs,q1,r1 with
  | [x],q1,r1=>
  obtain ⟨a,ps,rs,rfl,ZQ,hR,q0,q2⟩:=q1;rw [Vals.yZ r1];refine dJ (hK pos pins s1 σ H1 (λzs H2=>zs= [.fY]/\H2=H1) I1 ⟨rfl,rfl⟩) λws s2 ⟨zs,H2,I2,rz,ez,eH⟩=>?_;subst ez eH;obtain ⟨u,rfl,ru⟩:=vals1 rz;obtain rfl:u=Value.none:=ru;show wpAny _ _ (call (.builtin "min") [.ref a] [(Str.ofString "default", .none)]) _ _ _;by_cases gp:0<ps.length
  ·exact vi hc I2 ZQ hR.1 (λits rv=>Q1 I2 hu hR rv) gp (.inr ⟨_,rfl⟩) q2
  ·have e0:ps= []:=iz.mp (by omega);subst e0;obtain ⟨its,rv,hl,_⟩:=I2.list ZQ;cases rv;exact MZ (I2.ok.hd hc) hl.isList .none λh' tk hk=>⟨.fY,_,I2.kept hk,rfl,q0 rfl⟩
def D9 (hc:X.calm=true) (hu:X.A.units+64<ad0):jZ X (.builtin "min") (λxs H Q=> ∃(a b:Addr) (r t:List Int),xs= [.ref a, .ref b]/\zK X.K H a (r.map V.int)/\zK X.K H b (t.map V.int)/\Q (.ref (if rowLess t r=true then b else a)) H):=by
 intro pins s σ H xs us Q I r h;obtain ⟨a,b,n,m,rfl,ha,hb,q⟩:=h;obtain ⟨u,w',rfl,ru,uT⟩:=vals2 r;cases ru;cases uT;have hR:BZ X.K H [a,b] [n,m]:=(bQ.nil.snoc (a:=a) (b:=n) ha).snoc (a:=b) (b:=m) hb;have cmp:=Q1 (its:= [.ref a, .ref b]) I hu hR (.cons rfl (.cons rfl .nil));refine PV (I.ok.hd hc) (zZ [n,m]) cmp λh' tk k=>⟨_,H,I.kept k,?_,q⟩
 have e:zZ [n,m] 1 0=rowLess m n:=rfl;rw [e];cases rowLess m n<;>rfl
end
end Lf
namespace Lf
open Vbahaf (rowLess least)
def Gm {x:Option V} (h:j6 x none):x=none:=by
 cases x with
 |none=>rfl
 |some v=>exact h.elim
def Gk {x:Option V} {u:Value} (h:j6 x (some u)): ∃v,x=some v/\RelV v u:=by
 cases x with
 |none=>exact h.elim
 |some v=>exact ⟨v,rfl,h⟩
section
variable {P:adT} {w:adQ} {A:adW} {E:Value->adN->Prop} {s:adN} {K:Type} [DecidableEq K] {knd:HeapKind P w K}
def DD (d:Addr) (hd:(d==ad4)=false):
  MeetsIn P w (ad9.«dict.__len__» ⟨[.ref d],[]⟩) (λ_ R s=> ∃xs,s.heap.DictOfH knd d xs/\R (.ok (.ret (.int xs.length s.toks))) {s with toks:=s.toks+1}):=
 .of_wp λA R s ⟨kvs,hm,h⟩=>by
  obtain ⟨o,es,ep,ho,hc,YA,hk,_⟩:=hm;show wpAny _ _ (dictSize d>>=_) _ _ s;unfold dictSize;refine adP (adP (afb ho YA (adV ?_)));show wpAny _ _ (Builtin.Dict.pendingCount d>>=_) _ _ s;refine adP (wpAny_pendingCount_other hd ?_);refine wpAny_ret_mkInt ?_;have:es.size=kvs.length:=ae7 hk;rw [ow,this];exact h
def HB {d:Addr} {xs:List (K×Addr×Value)} {Q:Value->adN->Prop} (hd:(d==ad4)=false) (hm:s.heap.DictOfH knd d xs) (Us:(xs.length:Int)<2^63)
  (h:Q (.int xs.length (s.toks+1)) {s with toks:=s.toks+1+1}):wpAny (adR P w) A (call (.builtin "len") [.ref d]) Q E s:=by
 refine Calls.call_function_entry kind_len plain_len entry_len (args_len1 _) ?_;unfold ad9.«len»;refine adP (m:=oneArg "len" _) (adV ?_);refine adP (m:=callSpecial? (.ref d) (Str.ofString "__len__")) (afc (name:=Str.ofString "__len__") hm.typeIs F.slot_dict_len
  (aeJ F.slot_dict_len hm.typeIs F.entry_dict_len (F.args_dict_len_1 _) (DD (knd:=knd) d hd) ⟨xs,hm,?_⟩))
 show wpAny _ _ _ _ _ {s with toks:=s.toks+1};refine adP (aeh (adV ?_));refine adP (aeC ?_);show wpAny _ _ (if ((xs.length:Nat):Int)<0 then _ else _) _ _ _;rw [if_neg (by omega)];show wpAny _ _ (if ((xs.length:Nat):Int)>=2^63 then _ else _) _ _ _;rw [if_neg (by omega)];exact adP (wpAny_mkInt (adV ⟨_,rfl,h⟩))
end
section
variable {X:Cx}
def Ea:jZ X (.builtin "len") (λxs H Q=> ∃(a:Addr) (kvs:List (List Key×V)),xs= [V.ref a]/\H a=some (.dT kvs)/\Q (.int kvs.length) H):=by
 intro pins s σ H xs us Q I r h;obtain ⟨a,kvs,rfl,ha,q⟩:=h;obtain ⟨u,rfl,ru⟩:=vals1 r;cases ru;obtain ⟨z,hd,xs,rel,dd⟩:=K7 I.cO ha;have hl:kvs.length=xs.length:=Paired.length rel;refine HB hd dd (by rw [adY] at z;omega) ?_;exact ⟨.int kvs.length,H,I.tok _,⟨_,by rw [hl]⟩,q⟩
def KT.UZ {H:Hp} {k:List Key}: ∀{kvs:List (List Key×V)} {xs:List (List Key×Addr×Value)},KT H kvs xs->KT H (gX kvs k) (mF xs k):=by
 intro kvs xs r;unfold gX mF;induction r with
 |nil=>exact .nil
 | @cons p q ps qs h t ih=>
  obtain ⟨h1,h2,h3⟩:=h;by_cases e:p.1=k
  ·rw [bw,bw,if_neg (by simpa using e),if_neg (by rw [<-h1];simpa using e)];exact ih
  ·rw [bw,bw,if_pos (by simpa using e),if_pos (by rw [<-h1];simpa using e)];exact .cons ⟨h1,h2,h3⟩ ih
def QW {pins:List (Addr×Obj)} {σ:L2.St} {H:Hp} {s:adN} {a b:Addr} {kvs:List (List Key×V)} {k:List Key} {r:Value} {A:adW} {E:Value->adN->Prop} {Q:Value->adN->Prop} (hu:A.units+1<ad0) (I:Inv X pins σ H s)
  (e:H a=some (.dT kvs)) (eb:H b=some (.tup (k.map kV))) (h1: ∀v,cx kvs k=some v->∀w' s',RelV v w'->Inv X pins σ (upd H a (.dT (gX kvs k))) s'->Q w' s') (h0:cx kvs k=none->∀s',Inv X pins σ H s'->Q r s'):
  wpAny (adR X.prog X.w) A (call (.builtin "dict.pop") [.ref a, .ref b,r]) Q E s:=by
 obtain ⟨z,hd,xs,rel,dd⟩:=K7 I.cO e;have hz:xs.length<=sizeLine:=by rw [<-Paired.length rel];exact z
 refine aeJ eQ dd.typeIs mz (lN _ _ _) (Xm (knd:=aev (cI X.prog X.w)) (k:=k) hd)
  ⟨xs,aeI hu,pS I.cO eb,dd,hz,λno tk=>?_,λp hp h' tk HZ sb=>?_⟩
 ·have:=rel.val k;rw [no] at this;exact h0 (Gm this) _ (I.tok _)
 ·have rv:=rel.val k;rw [hp] at rv;obtain ⟨v,hv,rv⟩:=Gk rv;refine h1 v hv _ _ rv ?_;obtain ⟨q,es,ep,hq,h2,h3,h4,_,h5⟩:=HZ;refine qM I (by rw [e];exact fy) sb ⟨q,hq⟩ ⟨aV (BL kvs k) z,hd,_,(KT.UZ rel).keeps λc ys ec=>?_,q,es,ep,hq,h2,h3,h4,h5⟩;rw [bL (cg ec e (λz=>nomatch z))];exact ec
def Mh (td ty tx:TE):TE:=λσ H Q=>td σ H λx H1=> ∃a,x= .ref a/\Ve H1 a/\ty σ H1 λy H2=>tx σ H2 λz H3=> ∃kvs k b,H3 a=some (.dT kvs)/\y= .ref b/\H3 b=some (.tup (k.map kV))/\
 (∀v,cx kvs k=some v->Q v (upd H3 a (.dT (gX kvs k))))/\(cx kvs k=none->Q z H3)
def Gx {o e f:adS} {apos fi:Pos} {td ty tx:TE} (hu:X.A.units+1<ad0) (ho:PE X o td) (he:PE X e ty) (hf:PE X f tx) (m:M2 X o "pop" apos e f fi):PE X (.Call (.Attribute o "pop" apos) [e,f] [] fi) (Mh td ty tx):=by
 intro pins s σ H Q I h;refine aeK m.base m.US m.line ib eQ mW (dJ (ho pins s σ H _ I h) λu s1 ⟨x,H1,I1,rx,a,ex,d,q1⟩=>?_);subst ex;obtain rfl:u=Value.ref a:=rx;obtain ⟨t1,t2,_⟩:=zm I1 d;refine ⟨t1,t2,?_⟩;rw [m.trees];refine Calls.callWith_builtin rfl (Calls.evalArgs_plain (Calls.spliced_cons (dJ (he pins s1 σ H1 _ I1 q1) λiv s2 ⟨y,H2,I2,ry,q2⟩=>
  Calls.spliced_cons (dJ (hf pins s2 σ H2 _ I2 q2) λfv s3 ⟨z,H3,I3,rz,kvs,k,b,ea,ey,eb,q3,q4⟩=>Calls.spliced_nil ?_))))
 subst ey;obtain rfl:iv=Value.ref b:=ry;exact QW hu I3 ea eb (λv l w' s4 uT I4=>⟨v,_,I4,uT,q3 v l⟩) λl s4 I4=>⟨z,H3,I4,rz,q4 l⟩
end
def nW (v d:Addr):adO->Prop:=λh=>h.IsValuesView v d
def R5 (te:TE):TE:=λσ H Q=>te σ H λx H1=> ∃(d:Addr) (kvs:List (Key×V)),x= .ref d/\Rd H1 d (.dK kvs)/\∀v,H1 v=none->Q (.ref v) (upd H1 v (.ext (nW v d)))
section
variable {X:Cx}
def Gw {e:adS} {te:TE} {apos fi:Pos} (he:PE X e te) (hbase:aeg e "values" X.env (eval e X.env)=eval e X.env:=by rfl) (hline:(apos.endLine==fi.line)=true:=by rfl):
  PE X (.Call (.Attribute e "values" apos) [] [] fi) (R5 te):=by
 intro pins s σ H Q I h;refine aeK (T:= "dict") (id:= "dict.values") hbase rfl hline F.plainAttrs_dict F.slot_dict_values F.type_dict_values (dJ (he pins s σ H _ I h) λu s1 ⟨x,H1,I1,rx,d,kvs,ex,hd,q⟩=>?_);subst ex;obtain rfl:u=Value.ref d:=rx;obtain ⟨z,hs,vs,rel,dd⟩:=nP I1.cO hd;refine ⟨dd.typeIs,dd.mapOf.noDict,?_⟩;have hv:(s1.heap.push {cls:= .type "dict_values",data:= .fields #[.ref d]}).IsValuesView s1.heap.objs.size d:=⟨_,Heap.get?_push_size _ rfl,rfl,rfl⟩
 have fin:EP X pins σ Q (.ref s1.heap.objs.size) {s1 with heap:=s1.heap.push {cls:= .type "dict_values",data:= .fields #[.ref d]}}:=by
  refine ⟨.ref s1.heap.objs.size,upd H1 s1.heap.objs.size (.ext (nW s1.heap.objs.size d)),I1.laid (t':=s1.toks) (λb u e=>Heap.get?_push_of_some _ e) (ay _) ?_,rfl,q _ (I1.cO.fresh (ay _))⟩;refine ⟨hv,⟨_,Heap.get?_push_size _ rfl⟩,λh1 h2 z k=>?_⟩;obtain ⟨o,e1,e2⟩:=(show h1.IsValuesView _ d from z)
  exact ⟨o,k o e1,e2⟩
 show wpAny _ _ (aeT fi (.builtin "dict.values") [.ref d] [] []) _ X.xe s1;exact method_meetsIn F.slot_dict_values F.entry_dict_values rfl (qd ⟨rfl,dd.typeIs,F.args_dict_values_1 _,_,meets_dict_values (cI X.prog X.w) d hs,⟨vs,dd⟩,fin⟩)
def M4: ∀{kvs:List (Key×V)} {vs:List (Key×Value)},KV kvs vs->Vals (kvs.map (·.2)) (vs.map (·.2)):=by
 intro kvs vs r;unfold KV at r;induction r with
 |nil=>exact .nil
 |cons h t ih=>exact .cons h.2 ih
def r8 (hc:X.calm=true):jZ X (.type "list") (λxs H Q=> ∃(v d:Addr) (kvs:List (Key×V)),xs= [V.ref v]/\H v=some (.ext (nW v d))/\Rd H d (.dK kvs)/\∀l,H l=none->Q (.ref l) (upd H l (.lst (kvs.map (·.2))))):=by
 intro pins s σ H xs us Q I r h;obtain ⟨v,d,kvs,rfl,hv,hd,q⟩:=h;rw [Vals.yZ r];obtain ⟨z,hs,vs,rel,dd⟩:=nP I.cO hd;obtain ⟨ep,Ux⟩:=dd.dictAt;have hl:kvs.length=vs.length:=Paired.length rel;have view:s.heap.IsValuesView v d:=(show dZ X.prog X.w H s.heap v (.ext (nW v d)) from I.cO v _ hv).1;refine PySem.W.kdl_call (PySem.W.kdl_values (knd:=cI X.prog X.w) (kvs:=vs) (ep:=ep)) (I.ok.hd hc) ⟨view,Ux⟩ (by omega) λh' tk Q8 c' hk hS' J9=>?_;have e:Q8.toList=vs.map (·.2):=PySem.W.kdl_vals_eq Q8.toList (by rw [g6];exact J9.1) λj u hu=>J9.2 j u (by rw [<-gr];exact hu);have e2:Q8=(vs.map (·.2)).toArray:=by rw [<-e]
 refine ⟨.ref s.heap.objs.size,upd H s.heap.objs.size (.lst (kvs.map (·.2))),I.laid (t':=tk) hk (ay _) ?_,rfl,q _ (I.cO.fresh (ay _))⟩;exact ⟨by rw [ab];exact z,vs.map (·.2),c',M4 rel,by rw [<-e2];exact hS'⟩
end
def nJ: ∀{vs:List Value} {ns:List Int},vs.length=ns.length->(∀(j:Nat) (v:Value) (n:Int),vs[j]?=some v->ns[j]?=some n->∃t,v= .int n t)->IntsAre vs ns
 | [],[],_,_=> .nil
 | [],_::_,h,_=>by cases h
 |_::_,[],h,_=>by cases h
 |v::vs,n::ns,h,k=>by
  obtain ⟨t,rfl⟩:=k 0 v n rfl rfl;exact .cons n t (nJ (by simpa using h) λj v n a b=>k (j+1) v n (by simpa using a) (by simpa using b))
def zi:Key->Int
 | .inl i=>i
 | .inr _=>0
section
variable {P:adT} {w:adQ} {A:adW} {E:Value->adN->Prop} {s:adN} {Q:Value->adN->Prop}
def F9 {T:String} {r d:Addr} {n:Nat} {G:Nat->Value->Prop} {OK:adO->Prop} (K:PySem.W.KdlSrc P w T r d n G OK) (hh:A.handled=none) (cO:OK s.heap) (hn:n<64) {ns:List Int} (hlen:ns.length=n) (hG: ∀(j:Nat) (v:Value) (i:Int),G j v->ns[j]?=some i->∃t,v= .int i t)
  (h: ∀(h1 h2:adO) (tk:Nat) (out:Array Value) (ep:Nat) (xQ:List Int),(∀b o,s.heap.get? b=some o->h1.get? b=some o)->(∀b o,h1.get? b=some o->h2.get? b=some o)->h2.get? h1.objs.size=some {cls:= .type "list",data:= .seq out ep}->IntsAre out.toList xQ->xQ.Perm ns->xQ.Pairwise (· <= ·)->
   Q (.ref h1.objs.size) {s with heap:=h2,toks:=tk}):wpAny (adR P w) A (call (.builtin "sorted") [.ref r]) Q E s:=by
 have Uc:n<=sizeLine:=Mp hn;refine Calls.call_function_entry kind_sorted plain_sorted entry_sorted (args_sorted1 _) ?_;unfold ad9.«sorted»;refine adP (m:=checkCount "sorted" 1 1 _) (adV (adP (PySem.W.kdu_collect (A:=A.in1) K hh cO Uc λh1 tk acc hk J9=>?_)));have hl:acc.toList.length=n:=by rw [g6];exact J9.1
 refine adP (wpAny_newList ?_ (by rw [hl];exact Uc));have hI:IntsAre acc.toList ns:=nJ (by omega) λj v i hv hi=>hG j v i (J9.2 j v (by rw [<-gr];exact hv)) hi;have T7:(h1.push (seqObj "list" acc.toList.toArray 0)).get? h1.objs.size=some (seqObj "list" acc.toList.toArray 0):=Heap.get?_push_size _ rfl;have Ph:=list_sort_tree (prog:=P) (w:=w) (A:=A.in1.in1) (E:=E) (s:={s with heap:=h1.push (seqObj "list" acc.toList.toArray 0),toks:=tk}) T7 hI (by rw [hl];exact hn)
  (P:=λfin s'=> ∃v,fin= .done (.ret v)/\Q (.ref h1.objs.size) s') λout xQ a1 a2 a3=>⟨_,rfl,by
   obtain ⟨ep,he⟩:=sortedHeap_at (out:=out) T7;refine h h1 _ tk out ep xQ hk (λb o e=>?_) he a1 a2 a3;have hb:=Heap.lt_size e;rw [sortedHeap_old (bH hb) (by rw [size_push'];exact lS hb),Heap.get?_push_ne _ _ _ (bH hb)];exact e⟩
 refine adP (aeh (afd slot_list_sort ⟨_,T7,rfl⟩ entry_list_sort ?_ (args_list_sort _)));refine wpAny_mono Ph (λfin s' ⟨v,e,q⟩=>⟨v,e,adV ⟨_,rfl,q⟩⟩) λ_ _ e=>e
end
section
variable {X:Cx}
def D3 (hc:X.calm=true):jZ X (.builtin "sorted") (λvs H Q=> ∃(d:Addr) (kvs:List (Key×V)),vs= [V.ref d]/\Rd H d (.dK kvs)/\kvs.length<64/\(∀x∈kvs, ∃i:Int,x.1=az i)/\
  ∀(xQ:List Int) (p:Addr),xQ.Perm (kvs.map λx=>zi x.1)->xQ.Pairwise (· <= ·)->H p=none->Q (.ref p) (upd H p (.lst (xQ.map V.int)))):=by
 intro pins s σ H vs us Q I r h;obtain ⟨d,kvs,rfl,hd,h64,hi,q⟩:=h;rw [Vals.yZ r];obtain ⟨z,hs,xs,rel,dd⟩:=nP I.cO hd;obtain ⟨ep,Ux⟩:=dd.dictAt;have hl:kvs.length=xs.length:=Paired.length rel;have hk:=rel.keys;have Nd:(kvs.map λx=>zi x.1)=xs.map λx=>zi x.1:=by
  have:=congrArg (List.map zi) hk;rw [bm,bm] at this;exact this
 refine F9 (PySem.W.kdl_dict (knd:=cI X.prog X.w) (kvs:=xs) (ep:=ep) hs) (I.ok.hd hc) Ux (by omega) (ns:=kvs.map λx=>zi x.1) (by rw [ab];exact hl) (λj v i hg hj=>?_)
  λh1 h2 tk out ep xQ k1 k2 e a1 a2 a3=>?_
 ·obtain ⟨k,x,hx,RH⟩:=hg;rw [Nd,br,hx] at hj;have e:zi k=i:=by simpa using hj
  obtain ⟨y,hy,hyk⟩: ∃y∈kvs,y.1=k:=by
   have hm:k∈xs.map (·.1):=aj.mpr ⟨(k,x),aI hx,rfl⟩;rw [<-hk] at hm;obtain ⟨y,hy,e⟩:=aj.mp hm;exact ⟨y,hy,e⟩
  obtain ⟨i',GZ⟩:=hi y hy;rw [hyk] at GZ;subst GZ;have e:i'=i:=e;subst e;rcases dR (show qI (az i') v=true from RH) with ⟨a,t,e1,e2⟩|⟨x,t,e1,_⟩
  ·cases e1;exact ⟨t,e2⟩
  ·cases e1
 ·have I1:Inv X pins σ H {s with heap:=h1,toks:=tk}:=I.kept (t':=tk) k1;have hlen:(xQ.map V.int).length<=sizeLine:=by rw [ab,a2.length_eq,ab];exact z
  exact ⟨.ref _,upd H h1.objs.size (.lst (xQ.map V.int)),I1.laid (t':=tk) k2 (ay _) ⟨hlen,out.toList,ep,qm a1,e⟩,rfl,q xQ _ a2 a3 (I1.cO.fresh (ay _))⟩
end
def vI:V->Int
 | .int i=>i
 |_=>0
def rowAt (H:Hp) (p:Addr):List Int:=match H p with
 |some (.tup xs)=>xs.map vI
 |_=> []
def uV {H:Hp} {p:Addr} {r:List Int} (h:H p=some (.tup (r.map V.int))):rowAt H p=r:=by
 unfold rowAt;rw [h];show (r.map V.int).map vI=r;rw [bm];exact (bP λ_ _=>rfl).trans (ww r)
def adr:Value->Addr
 | .ref a=>a
 |_=>0
def Bh: ∀(a b:List Int),m8 itemOrd (a.map az) (b.map az)=rowLess a b
 | [],[]=>rfl
 | [],_::_=>rfl
 |_::_,[]=>rfl
 |a::r,b::s=>by
  show (decide (a<b)||(!decide (b<a)&&m8 itemOrd (r.map az) (s.map az)))=(decide (a<b)||(decide (a=b)&&rowLess r s))
  rw [Bh r s];by_cases h1:a<b
  ·simp [h1]
  ·by_cases h2:b<a
   ·have: ¬a=b:=by omega
    simp [h1,h2,this]
   ·have:a=b:=by omega
    simp [this]
def pb: ∀{vs:List Value} {ns:List Int},IntsAre vs ns->∀i,tupItems (λ_=>false) i vs=some (ns.map az)
 |_,_, .nil,_=>rfl
 |_,_, .cons n t h,i=>by
  show (if false=true then none else (tupItems (λ_=>false) (i+1) _).map (az n:: ·))=_;rw [if_neg aJ,pb h];rfl
section
variable {X:Cx}
def vW:jZ X (.builtin "sorted") (λvs H Q=> ∃(a:Addr) (ps:List Addr),vs= [V.ref a]/\iF X.K H a (ps.map V.ref)/\(∀p∈ps, ∃r:List Int,r≠ []/\H p=some (.tup (r.map V.int)))/\
  ∀(rh:List Addr) (q:Addr),rh.Perm ps->(rh.map (rowAt H)).Pairwise (λa b=>rowLess b a=false)->H q=none->Q (.ref q) (upd H q (.lst (rh.map V.ref)))):=by
 intro pins s σ H vs us Q I r h;obtain ⟨a,ps,rfl,hs,hp,q⟩:=h;rw [Vals.yZ r];obtain ⟨its,rv,hl,hz⟩:=I.list hs;have YW: ∀{ps:List Addr} {its:List Value},Vals (ps.map V.ref) its->its=ps.map Value.ref:=by
  intro ps;induction ps with
  |nil=>intro its rv;cases rv;rfl
  |cons p ps ih=>intro its rv;cases rv with|cons r1 r2=>rw [ih r2];cases r1;rfl
 have e:=YW rv;subst e;have one: ∀p∈ps, ∃(o:Obj) (t:List Value) (n:Nat),s.heap.get? p=some o/\o.cls= .type "tuple"/\o.data= .seq t.toArray n/\IntsAre t (rowAt H p)/\rowAt H p≠ []:=λp DM=>by
  obtain ⟨r,hr,hh⟩:=hp p DM;obtain ⟨_,t,rt,o,h1,h2,n,h3⟩:=(show dZ X.prog X.w H s.heap p (.tup (r.map V.int)) from I.cO p _ hh)
  rw [uV hh];exact ⟨o,t,n,h1,h2,h3,intsAre_of rt,hr⟩
 have key: ∀p∈ps,G.tupKeyC s.heap (λ_=>false) (.ref p)=some ((rowAt H p).map az):=λp DM=>by
  obtain ⟨o,t,n,h1,h2,h3,h4,_⟩:=one p DM;have e1:G.isTupObj s.heap (.ref p)=true:=by
   show (match s.heap.get? p with|some o=>(match o.cls with| .type n=>n== "tuple" |_=>false)|none=>false)=true;rw [h1];show (match o.cls with| .type n=>n== "tuple" |_=>false)=true;rw [h2];rfl
  unfold G.tupKeyC;rw [if_pos e1];show (match s.heap.get? p with|some o=>(match o.data with| .seq xs _=>tupItems (λ_=>false) 0 xs.toList|_=>none)|none=>none)=_;rw [h1];show (match o.data with| .seq xs _=>tupItems (λ_=>false) 0 xs.toList|_=>none)=_;rw [h3];exact pb h4 0
 have uu: ∀{l:List Addr},(∀p∈l,p∈ps)->∃fs,TupsOf s.heap (λ_=>false) (l.map Value.ref) fs:=by
  intro l;induction l with
  |nil=>intro _;exact ⟨[], .nil⟩
  |cons p l ih=>
   intro hm;obtain ⟨fs,hf⟩:=ih λx hx=>hm x (aF _ hx);obtain ⟨o,t,n,h1,h2,h3,h4,h5⟩:=one p (hm p aM);generalize rowAt H p=rr at h4 h5;cases h4 with
   |nil=>exact absurd rfl h5
   |cons k tk h6=>exact ⟨_, .cons ⟨p,o,_,n,rfl,h1,h2,h3,by simp,λ_=>⟨k,tk,rfl⟩,λz=>by cases z⟩ hf⟩
 obtain ⟨fs,hf⟩:=uu (l:=ps) λp h=>h;have hlen:(ps.map Value.ref).length<=sizeLine:=by rw [ab] at hz⊢;exact hz
 have Um: ∀v,v∈ps.map Value.ref->∃l,G.tupKeyC s.heap (λ_=>false) v=some l:=λv hv=>by
  obtain ⟨p,DM,rfl⟩:=aj.mp hv;exact ⟨_,key p DM⟩
 refine G.sorted_tups hl.isList hf Um hlen λwy a1 a2 _=>?_;have pl:(arrOf wy).toList.Perm ((ps.map Value.ref).zip (ps.map Value.ref)):=by
  have:=Array.perm_iff_toList_perm.mp a1;rw [pairsOf_toList] at this;exact this
 have ez:(ps.map Value.ref).zip (ps.map Value.ref)=ps.map λp=>(Value.ref p,Value.ref p):=by
  rw [List.zip_map];have: ∀l:List Addr,l.zip l=l.map λp=>(p,p):=λl=>by induction l with|nil=>rfl|cons x l ih=>rw [rp,ih];rfl
  rw [this,bm];rfl
 rw [ez] at pl;let rh:List Addr:=(arrOf wy).toList.map λp=>adr p.1;have pp:rh.Perm ps:=by
  have:=pl.map λp:Value×Value=>adr p.1;rw [bm] at this;refine this.trans (jb ?_);exact (bP λ_ _=>rfl).trans (ww ps)
 have el:(arrOf wy).toList=rh.map λp=>(Value.ref p,Value.ref p):=by
  show _=((arrOf wy).toList.map λp=>adr p.1).map λp=>(Value.ref p,Value.ref p)
  rw [bm];refine ((bP λx hx=>?_).trans (ww _)).symm;obtain ⟨p,_,rfl⟩:=aj.mp (pl.mem_iff.mp hx);rfl
 have eo:((arrOf wy).map (·.2)).toList=rh.map Value.ref:=by
  rw [Array.toList_map,el,bm];rfl
 have sz:(arrOf wy).size=(pairsOf (ps.map Value.ref)).size:=a1.size_eq;have hks:KeysOf (G.tupKindC s.heap λ_=>false) (arrOf wy):=λp DM=>by
  obtain ⟨x,hx,rfl⟩:=aj.mp (pl.mem_iff.mp DM);exact ⟨_,key x hx⟩
 have pw:=keyLe_of_sorted hks (by rw [sz];exact a2);rw [el,dE] at pw;have pr:(rh.map (rowAt H)).Pairwise λa b=>rowLess b a=false:=by
  rw [dE];refine pw.imp_of_mem λ{x y} hx hy ⟨k1,k2,e1,e2,e3⟩=>?_;have hx:=pp.mem_iff.mp hx;have hy:=pp.mem_iff.mp hy;have e1:G.tupKeyC s.heap (λ_=>false) (.ref x)=some k1:=e1;have e2:G.tupKeyC s.heap (λ_=>false) (.ref y)=some k2:=e2;rw [key x hx] at e1;rw [key y hy] at e2;cases e1;cases e2;have e3:m8 itemOrd ((rowAt H y).map az) ((rowAt H x).map az)=false:=e3;rw [Bh] at e3;exact e3
 obtain ⟨ep,he⟩:=sortedAll_at s.heap (ps.map Value.ref) ((arrOf wy).map (·.2));have vr: ∀l:List Addr,Vals (l.map V.ref) (l.map Value.ref):=λl=>by induction l with|nil=>exact .nil|cons x l ih=>exact .cons rfl ih
 refine ⟨.ref _,upd H (s.heap.objs.size+1) (.lst (rh.map V.ref)),I.laid (t':=s.toks) (λ_ _=>sortedAll_old) (lT _) ⟨?_,rh.map Value.ref,ep,vr rh,?_⟩,rfl,q rh _ pp pr (I.cO.fresh (lT _))⟩
 ·rw [ab,pp.length_eq];rw [ab] at hz;exact hz
 ·rw [he, <-eo]
end
end Lf
namespace Lf
def KD (P:adT) (w:adQ) (K:aa) (a:Addr) (kvs:List (Key×V)):Prop:=(a==ad4)=false/\∃o vs,K.lookup a=some o/\KV kvs vs/\o.IsDictOf (cI P w) vs
section
variable {X:Cx} {pins:List (Addr×Obj)} {σ:L2.St} {H:Hp} {s:adN}
def KD.at {a:Addr} {kvs:List (Key×V)} (h:KD X.prog X.w X.K a kvs) (I:Inv X pins σ H s):(a==ad4)=false/\∃vs,KV kvs vs/\s.heap.DictOf (cI X.prog X.w) a vs:=by
 obtain ⟨h0,o,vs,h1,h2,es,ep,h3,h4,h5⟩:=h;exact ⟨h0,vs,h2,o,es,ep,I.Fe a o h1,h3,h4,h5⟩
end
def Mf (P:adT) (w:adQ) (K:aa) (ty td:TE):TE:=λσ H Q=>ty σ H λy H1=>td σ H1 λx H2=> ∃(a:Addr) (kvs:List (Key×V)) (k:Key),x= .ref a/\KD P w K a kvs/\y=kV k/\Q (.bl (!(cx kvs k).isSome)) H2
def Sg (P:adT) (w:adQ) (K:aa) (td ty:TE):TE:=λσ H Q=>td σ H λx H1=>ty σ H1 λy H2=> ∃(a:Addr) (kvs:List (Key×V)) (k:Key) (v:V),x= .ref a/\KD P w K a kvs/\y=kV k/\cx kvs k=some v/\Q v H2
section
variable {X:Cx} {i o:adS} {ty td:TE} {pos:Pos}
def u6 (hi:PE X i ty) (ho:PE X o td):PC X .NotIn i o (Mf X.prog X.w X.K ty td):=by
 intro pins s σ H Q I h;refine dJ (hi pins s σ H _ I h) λiv s1 ⟨y,H1,I1,ry,q1⟩=>dJ (ho pins s1 σ H1 _ I1 q1) λu s2 ⟨x,H2,I2,rx,a,kvs,k,ex,g,ey,q2⟩=>?_;subst ex ey;obtain rfl:u=Value.ref a:=rx;obtain ⟨hd,vs,rel,dd⟩:=g.at I2;refine wpAny_notIn_of (nI ry) hd dd.mapOf ?_;rw [<-(rel.val k).jF];exact ⟨.bl _,H2,I2.tok _,rfl,q2⟩
def Jt (ho:PE X o td) (hi:PE X i ty) (hs:Rc i):PE X (.Subscript o i pos) (Sg X.prog X.w X.K td ty):=by
 intro pins s σ H Q I h;refine Er wH.lookup hs (dJ (ho pins s σ H _ I h) λu s1 ⟨x,H1,I1,rx,q1⟩=>dJ (hi pins s1 σ H1 _ I1 q1) λiv s2 ⟨y,H2,I2,ry,a,kvs,k,v,ex,g,ey,l,q2⟩=>?_);subst ex ey;obtain rfl:u=Value.ref a:=rx;obtain ⟨hd,vs,rel,dd⟩:=g.at I2;obtain ⟨w',hw,uT⟩:=j6.some_of (v:=v) (o:=aei vs k) (by rw [<-l];exact rel.val k);exact ⟨dd.typeIs,wpAny_getItem_of (nI ry) dd.mapOf hw ⟨v,H2,I2.tok _,uT,q2⟩⟩
end
def Zj (P:adT) (w:adQ) (K:aa) (mg:Str->Option Value) (base:adO) (k:Nat) (n:Nat) (f:V) (sp:Sp):Prop:= ∃(a:Addr) (fd:ad7) (ps:List Str),f= .ref a/\ps.length=n/\eL K (.ref a)=true/\Binds K fd ps []/\kO P w K mg base Lm k a fd ps sp
def Fn.v {P:adT} {w:adQ} {K:aa} {mg:Str->Option Value} {base:adO} {x:Str} {j k:Nat} {ps:List Str} {sp:Sp} (G:Fn P w K mg base x j ps sp) (h:j<=k): ∃a,mg x=some (.ref a)/\Zj P w K mg base k ps.length (.ref a) sp:=by
 obtain ⟨f,fd,hm,kp,hb,F⟩:=G;exact ⟨f,hm,f,fd,ps,rfl,rfl,kp,hb,F.mono h⟩
section
variable {X:Cx} {f e:adS} {es:List adS} {te:TE} {t:TA} {pos:Pos}
def Zu {k n:Nat} (hr:iu k X.A) (hf:PE X f te) (ha:PA X (e::es) t) (hev:eval (.Call f (e::es) [] pos) X.env=(do aeT pos (<-eval f X.env) [] (ad2 pos (adU (e::es) X.env)) (aeq pos (aer [] X.env))):=by rfl)
  (he:adU (e::es) X.env=(false,eval e X.env)::adU es X.env:=by rfl) (hpl:(ad2 pos (adU es X.env)).any (·.1)=false:=by rfl):
  PE X (.Call f (e::es) [] pos) (λσ H Q=>te σ H λg H1=> ∃sp,Zj X.prog X.w X.K X.mg X.base k n g sp/\t σ H1 λvs H2=>sp vs H2 Q E0):=by
 intro pins s σ H Q I h;refine WF (dJ (hf pins s σ H _ I h) λu s1 ⟨g,H1,I1,rg,sp,hv,q⟩=>?_) hev;obtain ⟨a,fd,ps,rfl,_,kp,hb,F⟩:=hv;obtain rfl:u=Value.ref a:=rg;refine qe (h₀:=X.base) I.ok.mod.Tp kp (dJ (ha pos pins s1 σ H1 _ I1 q) λus s2 ⟨vs,H2,I2,r,q2⟩=>⟨I2.Fe,?_⟩) he hpl;have q2:sp (vs++ []) H2 Q E0:=by rw [di];exact q2
 exact Jb F hr hb .nil E2 I2 r q2
end
end Lf
namespace Lf
structure Bl (mg:Str->Option Value):Prop where
 len:mg "len" =none
 max:mg "max" =none
 min:mg "min" =none
 sum:mg "sum" =none
 all:mg "all" =none
 list:mg "list" =none
 sorted:mg "sorted" =none
 range:mg "range" =none
 zip:mg "zip" =none
 enumerate:mg "enumerate" =none
structure Cs (mg:Str->Option Value):Prop where
 GROUPS:Ci mg "GROUPS" (8)
 Vd:Ci mg "KINDS" (5)
 zO:Ci mg "OUT_OF_RANGE" (-2)
 Eg:Ci mg "NO_JOURNEY" (-3)
 sM:Ci mg "NO_SEGMENTS" (-4)
 N2:Ci mg "NO_FARE" (-5)
 sj:Ci mg "NOT_RIGHT" (-6)
 qR:Ci mg "NO_PRICE" (-7)
 Rg:Ci mg "FULL" (-8)
 Ei:Ci mg "MOST_FARES" (60)
 qS:Ci mg "MOST_AMOUNTS" (40)
 mJ:Ci mg "SEGMENT_NUMBERS" (5)
 wb:Ci mg "SATURDAY_DIGIT" (5)
 Ce:Ci mg "ANY_CARRIER" (-1)
 N1:Ci mg "ONE_WAY" (0)
 oi:Ci mg "HALF_OF_RETURN" (1)
 wg:Ci mg "NEAR_ENDS_ONLY" (1)
 xo:Ci mg "FAR_ENDS_ONLY" (2)
 pi:Ci mg "THREE_NUMBERS" (3)
 kN:Ci mg "NOTHING_WRONG" (0)
 HF:Ci mg "WRONG_CUT" (1)
 zP:Ci mg "NO_SUCH_FARE" (2)
 xm:Ci mg "WRONG_PARTNER" (3)
 Eh:Ci mg "NOT_SINGLY" (4)
 HL:Ci mg "NO_RETURN" (5)
 we:Ci mg "NO_PARTNER" (-1)
 Lj:Ci mg "NO_TOTAL" (-1)
 Cc:Ci mg "FARES_PLACE" (16)
structure Ds (K:aa) (mg:Str->Option Value):Prop where
 Jl:Dn K mg "put_fare" (top 18) ["house","numbers","row"]
 F5:Dn K mg "take_fare" (top 19) ["house","numbers","row"]
 sY:Dn K mg "put_combination" (top 20) ["house","numbers","row"]
 Da:Dn K mg "put_amount" (top 21) ["amounts","name","amount"]
 Gq:Dn K mg "put_floor" (top 22) ["house","numbers","row"]
 MF:Dn K mg "put_tax" (top 23) ["house","numbers","row"]
 AO:Dn K mg "put_percent" (top 24) ["house","numbers","row"]
 Jj:Dn K mg "put_unit" (top 25) ["house","numbers","row"]
 JP:Dn K mg "is_right" (top 26) ["now","segments"]
 AR:Dn K mg "put_journey" (top 27) ["house","numbers","row"]
 Gn:Dn K mg "read_call" (top 32) ["calls","begin"]
 Ee:Dn K mg "are_within" (top 33) ["numbers","ranges"]
 zj:Dn K mg "is_row_right" (top 34) ["row","fewest","most","ranges"]
 Bs:Dn K mg "is_in_range" (top 35) ["place","numbers","row"]
 jQ:Dn K mg "greatest_floor" (top 43) ["floors","segments"]
 G7:Dn K mg "has_digit" (top 44) ["mask","digit"]
 uy:Dn K mg "takes_segments" (top 45) ["fare","segments"]
 suits:Dn K mg "suits" (top 46) ["fare","component","kind"]
 GL:Dn K mg "leads_out" (top 47) ["fare","component"]
 DG:Dn K mg "leads_home" (top 48) ["fare","component"]
 BG:Dn K mg "fits_singly" (top 49) ["fare","component","kind"]
 KR:Dn K mg "fits_out" (top 50) ["fare","component","kind"]
 Hn:Dn K mg "fits_home" (top 51) ["fare","component","kind"]
 MO:Dn K mg "pays" (top 52) ["house","kind","fare","component"]
 Gy:Dn K mg "offers_by" (top 53) ["house","kind","component","fares"]
 BH:Dn K mg "find_offers" (top 54) ["house","kind"]
 xi:Dn K mg "digits_needed" (top 58) ["out","home"]
 zI:Dn K mg "allows" (top 59) ["fare","needed","stay"]
 BC:Dn K mg "go_together" (top 60) ["house","group_out","group_home"]
 Bf:Dn K mg "make_return" (top 61) ["house","kind","fare_out","out","fare_home","home"]
 vq:Dn K mg "least_by_group" (top 62) ["offers","needed","stay"]
 zg:Dn K mg "least_return" (top 63) ["house","out_offers","home_offers"]
 yI:Dn K mg "split_threes" (top 72) ["row"]
 zk:Dn K mg "is_cut_right" (top 73) ["house","threes"]
 tF:Dn K mg "are_fares_there" (top 74) ["house","threes"]
 rR:Dn K mg "is_partner_right" (top 75) ["threes","place"]
 pZ:Dn K mg "are_partners_right" (top 76) ["threes"]
 tD:Dn K mg "find_components" (top 77) ["house","threes"]
 vT:Dn K mg "do_singles_fit" (top 78) ["house","kind","threes","components"]
 vU:Dn K mg "do_returns_fit" (top 79) ["house","kind","threes","components"]
 DX:Dn K mg "find_wrong" (top 80) ["house","kind","threes"]
 Iw:Dn K mg "total_of" (top 81) ["house","kind","threes"]
 zC:Dn K mg "check_threes" (top 82) ["house","kind","row"]
 uK:Dn K mg "single_choices" (top 86) ["offers"]
 uY:Dn K mg "return_choices" (top 87) ["house","out_offers","home_offers"]
 zw:Dn K mg "find_singles" (top 88) ["house","offered"]
 zx:Dn K mg "find_choices" (top 89) ["house","kind"]
 zd:Dn K mg "lowest_digit" (top 90) ["mask"]
 vY:Dn K mg "choices_within" (top 91) ["choices","mask"]
 Iz:Dn K mg "sum_with" (top 93) ["choice","sums","mask"]
 DE:Dn K mg "least_sums" (top 94) ["choices"]
 w9:Dn K mg "least_choices" (top 95) ["choices","sums","mask"]
 yz:Dn K mg "write_threes" (top 96) ["parts"]
 ze:Dn K mg "least_threes" (top 97) ["choices","sums"]
 w6:Dn K mg "least_pricing" (top 98) ["house","kind"]
 wX:Dn K mg "prefix_totals" (top 99) ["choices"]
 mh:Dn K mg "least_totals_by_prefix" (top 100) ["house","kind"]
 Bm:Dn K mg "least_total" (top 101) ["house","kind"]
 qH:Dn K mg "least_total_alone" (top 102) ["house","kind"]
 D4:Dn K mg "count_ways" (top 103) ["house","kind"]
 CL:Dn K mg "tell_price" (top 106) ["house","numbers","row"]
 xa:Dn K mg "journey_taxes" (top 107) ["house"]
 CM:Dn K mg "tell_party" (top 108) ["house","numbers","row"]
 zl:Dn K mg "is_component" (top 109) ["house","first","last"]
 vf:Dn K mg "offers_between" (top 110) ["house","kind","first","last"]
 yC:Dn K mg "tell_singles" (top 111) ["house","numbers","row"]
 lD:Dn K mg "are_components_in_order" (top 112) ["house","first","last","second_first","second_last"]
 F3:Dn K mg "tell_pair" (top 113) ["house","numbers","row"]
 CP:Dn K mg "tell_check" (top 114) ["house","numbers","row"]
 CQ:Dn K mg "tell_alone" (top 115) ["house","numbers","row"]
 CO:Dn K mg "tell_count" (top 116) ["house","numbers","row"]
 wR:Dn K mg "tell_prefixes" (top 117) ["house","numbers","row"]
 CN:Dn K mg "tell_fares" (top 118) ["house","numbers","row"]
 yD:Dn K mg "tell_journey" (top 119) ["house","numbers","row"]
 answer:Dn K mg "answer" (top 123) ["house","place","numbers","row"]
 answers:Dn K mg "answers" (top 124) ["calls"]
structure CA where
 Fare:Addr
 gh:Addr
 Journey:Addr
 i6:Addr
 cN:Addr
 iw:Addr
 Choice:Addr
structure Ks (K:aa) (mg:Str->Option Value) (t:CA):Prop where
 Fare:Dc K mg "Fare" "Fare.__init__" (inClass (top 3) 0) t.Fare ["self","numbers"]
 gh:Dc K mg "Segment" "Segment.__init__" (inClass (top 4) 0) t.gh ["self","numbers"]
 Journey:Dc K mg "Journey" "Journey.__init__" (inClass (top 5) 0) t.Journey ["self","now","segments"]
 i6:Dc K mg "House" "House.__init__" (inClass (top 6) 0) t.i6 ["self"]
 cN:Dc K mg "Component" "Component.__init__" (inClass (top 41) 0) t.cN ["self","house","first","last"]
 iw:Dc K mg "Offers" "Offers.__init__" (inClass (top 42) 0) t.iw ["self","house","kind","component"]
 Choice:Dc K mg "Choice" "Choice.__init__" (inClass (top 85) 0) t.Choice ["self","paid","parts"]
 qV:bF K t.Fare "numbers"
 Ca:bF K t.Fare "key"
 qX:bF K t.Fare "carrier"
 yo:bF K t.Fare "near"
 Cb:bF K t.Fare "far"
 B9:bF K t.Fare "way"
 sR:bF K t.Fare "amount"
 qW:bF K t.Fare "classes"
 pk:bF K t.Fare "weekdays"
 mL:bF K t.Fare "days_ahead"
 mK:bF K t.Fare "least_stay"
 oo:bF K t.Fare "most_stay"
 wo:bF K t.Fare "group"
 om:bF K t.Fare "open_ends"
 wm:bF K t.Fare "kinds"
 jX:bF K t.Fare "most_segments"
 mG:bF K t.gh "numbers"
 mH:bF K t.gh "carrier"
 nZ:bF K t.gh "origin"
 nY:bF K t.gh "target"
 sJ:bF K t.gh "day"
 mI:bF K t.gh "booking"
 sO:bF K t.Journey "now"
 lG:bF K t.Journey "segments"
 sQ:bF K t.i6 "fares"
 jW:bF K t.i6 "together"
 qU:bF K t.i6 "floors"
 sP:bF K t.i6 "taxes"
 oe:bF K t.i6 "percents"
 wl:bF K t.i6 "unit"
 pj:bF K t.i6 "journey"
 mO:bF K t.cN "first"
 ot:bF K t.cN "last"
 dI:bF K t.cN "segments"
 lJ:bF K t.cN "origin"
 lI:bF K t.cN "target"
 kP:bF K t.cN "day"
 jp:bF K t.cN "days_left"
 mN:bF K t.cN "floor"
 lF:bF K t.iw "component"
 n8:bF K t.iw "singles"
 sL:bF K t.iw "outs"
 qQ:bF K t.iw "homes"
 sS:bF K t.Choice "paid"
 qY:bF K t.Choice "parts"
 iU:bF K t.Choice "covers"
def fV:List (List (Int×Int)):= [[(0,999999999),(-1,675),(0,17575),(0,17575),(0,1),(0,1000000000),(0,67108863),(0,127),(0,999),(0,999),(0,999),(0,7),(0,3),(0,31),(1,8)],[(0,999999999)],[(0,7),(0,7),(0,1)],[(0,17575),(0,17575),(0,1000000000)],[(0,17575),(0,1000000000)],[(0,4),(0,200)],[(1,10000)],[(0,36524)],[(0,4)],[],[(0,4),(1,8),(1,8)],[(0,4),(1,8),(1,8),(1,8),(1,8)],[(0,4)],[(0,4)],[(0,4)],[(0,4)],[],[]]
def wk (K:aa) (a:Addr) (xs:List V):Prop:= ∃(o:Obj) (its:Array Value) (n:Nat),K.lookup a=some o/\o.cls= .type "tuple"/\o.data= .seq its n/\its.size<=sizeLine/\Vals xs its.toList
def wk.sq {K:aa} {H:Hp} {a:Addr} {xs:List V} (h:wk K a xs):zK K H a xs:= .inr h
def xy (K:aa):Value->Option (List Value)
 | .ref a=>match K.lookup a with
  |some ⟨c,_, .seq its _,_⟩=>if c== .type "tuple" &&decide (its.size<=100) then some its.toList else none
  |_=>none
 |_=>none
def allOf {α β:Type} (f:α->Option β):List α->Option (List β)
 | []=>some []
 |a::l=>match f a,allOf f l with
  |some b,some r=>some (b::r)
  |_,_=>none
def Je (K:aa) (v:Value):Option (Int×Int):=match xy K v with
 |some [.int a _, .int b _]=>some (a,b)
 |_=>none
def yV (K:aa) (v:Value):Option (List (Int×Int)):=match xy K v with
 |some l=>allOf (Je K) l
 |none=>none
def vg (K:aa) (v:Value):Option (List (List (Int×Int))):=match xy K v with
 |some l=>allOf (yV K) l
 |none=>none
def vM (K:aa) (v:Value):Option (Int×Int×List (Int×Int)):=match xy K v with
 |some [.int a _, .int b _,r]=>match yV K r with
  |some l=>some (a,b,l)
  |none=>none
 |_=>none
def qu {K:aa} {v:Value} {l:List Value} (h:xy K v=some l): ∃(a:Addr) (o:Obj) (its:Array Value) (n:Nat),v= .ref a/\K.lookup a=some o/\o.cls= .type "tuple"/\o.data= .seq its n/\its.size<=sizeLine/\its.toList=l:=by
 unfold xy at h;split at h
 ·rename_i a
  split at h
  ·rename_i c d its n sl q
   split at h
   ·rename_i g
    simp only [aU,beq_iff_eq,decide_eq_true_eq] at g;cases h;exact ⟨a,_,its,n,rfl,q,g.1,rfl,aV g.2 (by decide),rfl⟩
   ·cases h
  ·cases h
 ·cases h
def sf {α β:Type} {f:α->Option β}: ∀{l:List α} {r:List β},allOf f l=some r->l.length=r.length/\∀(i:Nat) (a:α) (b:β),l[i]?=some a->r[i]?=some b->f a=some b
 | [],r,h=>by
  cases h;exact ⟨rfl,λi a b h=>by simp at h⟩
 |a::l,r,h=>by
  unfold allOf at h;split at h
  ·rename_i b r' e1 e2
   cases h;obtain ⟨h1,h2⟩:=sf e2;refine ⟨by simp [h1],λi x y hx hy=>?_⟩;cases i with
   |zero=>
    have e:a=x:=by simpa using hx
    have e':b=y:=by simpa using hy
    rw [<-e, <-e'];exact e1
   |succ i=>exact h2 i x y (by simpa using hx) (by simpa using hy)
  ·cases h
def ym (K:aa) (v:V) (r:List (Int×Int)):Prop:= ∃(a:Addr) (ps:List Addr),v= .ref a/\wk K a (ps.map V.ref)/\bQ (λp x=>wk K p [.int x.1, .int x.2]) ps r
def AH {K:aa} {v:Value} {x:Int×Int} (h:Je K v=some x): ∃a,v= .ref a/\wk K a [.int x.1, .int x.2]:=by
 unfold Je at h;split at h
 ·rename_i p a t b u q
  cases h;obtain ⟨ad,o,its,n,rfl,h1,h2,h3,h4,h5⟩:=qu q;exact ⟨ad,rfl,o,its,n,h1,h2,h3,h4,by rw [h5];exact .cons ⟨t,rfl⟩ (.cons ⟨u,rfl⟩ .nil)⟩
 ·cases h
def yY {R:Addr->Prop}: ∀{l:List Value},(∀v∈l, ∃a,v= .ref a/\R a)->∃ps:List Addr,l=ps.map Value.ref
 | [],_=>⟨[],rfl⟩
 |v::l,h=>by
  obtain ⟨a,rfl,_⟩:=h v aM;obtain ⟨ps,rfl⟩:=yY (l:=l) λx hx=>h x (aF _ hx);exact ⟨a::ps,rfl⟩
def En: ∀l:List Addr,Vals (l.map V.ref) (l.map Value.ref)
 | []=> .nil
 |_::l=> .cons rfl (En l)
def rH {K:aa} {v:Value} {r:List (Int×Int)} (h:yV K v=some r): ∃a,v= .ref a/\ym K (.ref a) r:=by
 unfold yV at h;split at h
 ·rename_i l q
  obtain ⟨ad,o,its,n,rfl,h1,h2,h3,h4,h5⟩:=qu q;obtain ⟨g1,g2⟩:=sf h;have hall: ∀v∈l, ∃a,v= .ref a/\True:=λv hv=>by
   obtain ⟨i,hi⟩:=gN hv;have hl:=(aK.mp hi).1;obtain ⟨a,e,_⟩:=AH (g2 i v _ hi (ao (by omega)));exact ⟨a,e,trivial⟩
  obtain ⟨ps,rfl⟩:=yY hall;rw [ab] at g1;refine ⟨ad,rfl,ad,ps,rfl,⟨o,its,n,h1,h2,h3,h4,by rw [h5];exact En ps⟩,g1,λi p x hp hx=>?_⟩;obtain ⟨a,e,k⟩:=AH (g2 i (.ref p) x (by rw [br,hp];rfl) hx);cases e;exact k
 ·cases h
def GC {K:aa} {v:Value} {r:List (List (Int×Int))} (h:vg K v=some r): ∃a ps,v= .ref a/\wk K a (ps.map V.ref)/\bQ (λp x=>ym K (.ref p) x) ps r:=by
 unfold vg at h;split at h
 ·rename_i l q
  obtain ⟨ad,o,its,n,rfl,h1,h2,h3,h4,h5⟩:=qu q;obtain ⟨g1,g2⟩:=sf h;have hall: ∀v∈l, ∃a,v= .ref a/\True:=λv hv=>by
   obtain ⟨i,hi⟩:=gN hv;have hl:=(aK.mp hi).1;obtain ⟨a,e,_⟩:=rH (g2 i v _ hi (ao (by omega)));exact ⟨a,e,trivial⟩
  obtain ⟨ps,rfl⟩:=yY hall;rw [ab] at g1;refine ⟨ad,ps,rfl,⟨o,its,n,h1,h2,h3,h4,by rw [h5];exact En ps⟩,g1,λi p x hp hx=>?_⟩;obtain ⟨a,e,k⟩:=rH (g2 i (.ref p) x (by rw [br,hp];rfl) hx);cases e;exact k
 ·cases h
def B7 (K:aa) (v:V) (x:Int×Int×List (Int×Int)):Prop:= ∃(a:Addr) (r:V),v= .ref a/\wk K a [.int x.1, .int x.2.1,r]/\ym K r x.2.2
def rS {K:aa} {v:Value} {x:Int×Int×List (Int×Int)} (h:vM K v=some x): ∃a,v= .ref a/\B7 K (.ref a) x:=by
 unfold vM at h;split at h
 ·rename_i p a t b u r q
  split at h
  ·rename_i l e
   cases h;obtain ⟨ad,o,its,n,rfl,h1,h2,h3,h4,h5⟩:=qu q;obtain ⟨ar,rfl,k⟩:=rH e;exact ⟨ad,rfl,ad,_,rfl,⟨o,its,n,h1,h2,h3,h4,by rw [h5];exact .cons ⟨t,rfl⟩ (.cons ⟨u,rfl⟩ (.cons rfl .nil))⟩,k⟩
  ·cases h
 ·cases h
def OX (P:adT) (w:adQ) (K:aa) (mg:Str->Option Value):Prop:= ∃(a:Addr) (v7 v9 CD:V),mg "ROWS" =some (.ref a)/\KD P w K a [(az 7,v7),(az 9,v9),(az 12,CD)]/\
 B7 K v7 (5,40,[(0,675),(0,17575),(0,17575),(0,36524),(0,25)])/\B7 K v9 (5,5,[(0,9)])/\B7 K CD (0,24,[(0,8),(0,999999999),(0,8)])
structure si (K:aa) (mg:Str->Option Value):Prop where
 tab: ∃(a:Addr) (fs:List Addr),mg "CHANGES" =some (.ref a)/\wk K a (fs.map V.ref)/\fs.map (λf=>some (Value.ref f))= [mg "put_fare",mg "take_fare",mg "put_combination",mg "put_floor",mg "put_tax",mg "put_percent",mg "put_unit",mg "put_journey"]
structure nX (K:aa) (mg:Str->Option Value):Prop where
 tab: ∃(a:Addr) (fs:List Addr),mg "QUESTIONS" =some (.ref a)/\wk K a (fs.map V.ref)/\fs.map (λf=>some (Value.ref f))= [mg "tell_price",mg "tell_party",mg "tell_singles",mg "tell_pair",mg "tell_check",mg "tell_alone",mg "tell_count",mg "tell_prefixes",mg "tell_fares",mg "tell_journey"]
structure Txt (P:adT) (w:adQ) (K:aa) (mg:Str->Option Value) (t:CA):Prop where
 bl:Bl mg
 cs:Cs mg
 ds:Ds K mg
 ks:Ks K mg t
 MW: ∃a,mg "NUMBERS" =some (.ref a)/\vg K (.ref a)=some fV
 rows:OX P w K mg
 changes:si K mg
 Go:nX K mg
section
variable {K:aa} {h:adO} {mg:Str->Option Value}
def aat (X:K.In h) (G:h.Ns adX mg) {x:Str} {st:adZ} {ps:List Str} {f:Addr} {oc:Value} {od an:Option Addr} {wA:Array (Option Value)} {kV doc pm dD ct:Value}
  (a:bM K adX x=some (some (.ref f))) (l:K.lookup f=some ⟨oc,od, .func (fe x x (km st) (jA st) (aS st) .none kV doc pm an dD ct),wA⟩) (c:j0 K dD x=true) (k:eL K (.ref f)=true)
  (b: ∀(kV doc pm:Value) (an:Option Addr) (dD ct:Value) (us:List Value),us.length=ps.length->bindArgs (fe x x (km st) (jA st) (aS st) .none kV doc pm an dD ct) ⟨us,[]⟩=pure (ps.zip us):=by first|(exact λ_ _ _ _ _ _ us hl=>match us,hl with| [_,_,_],_=>rfl)|(exact λ_ _ _ _ _ _ us hl=>match us,hl with| [_,_],_=>rfl)|(exact λ_ _ _ _ _ _ us hl=>match us,hl with| [_],_=>rfl)|(exact λ_ _ _ _ _ _ us hl=>match us,hl with| [_,_,_,_],_=>rfl)|(exact λ_ _ _ _ _ _ us hl=>match us,hl with| [_,_,_,_,_],_=>rfl)|(exact λ_ _ _ _ _ _ us hl=>match us,hl with| [_,_,_,_,_,_],_=>rfl)):Dn K mg x st ps:=
 ⟨f,_,zt l c k,bD X G a,(zt l c k).binds b⟩
def aau (X:K.In h) (G:h.Ns adX mg) {x q:Str} {st:adZ} {ps:List Str} {C f:Addr} {oc:Value} {od an:Option Addr} {wA:Array (Option Value)} {kV doc pm dD ct:Value}
  (a:bM K adX x=some (some (.ref C))) (i:eM K (.ref C) "__init__" =some (some (.ref f))) (fn:N4 K (.ref f)=true)
  (l:K.lookup f=some ⟨oc,od, .func (fe "__init__" q (km st) (jA st) (aS st) .none kV doc pm an dD ct),wA⟩) (c:j0 K dD q=true) (k:eL K (.ref f)=true)
  (pg:lL K C Str.empty=true) (hd:kz K C=true) (po:qZ K C=true) (sa:eM K (.ref C) "__setattr__" =some (some (.builtin "object.__setattr__"))) (mk:tJ K C=true) (kc:eL K (.ref C)=true)
  (b: ∀(kV doc pm:Value) (an:Option Addr) (dD ct:Value) (us:List Value),us.length=ps.length->bindArgs (fe "__init__" q (km st) (jA st) (aS st) .none kV doc pm an dD ct) ⟨us,[]⟩=pure (ps.zip us)):Dc K mg x q st C ps:=
 ⟨f,_,zt l c k,bD X G a,⟨mk,i,fn,kc⟩,(zt l c k).binds b,⟨pg,hd,po,sa⟩⟩
def aav (X:K.In h) (G:h.Ns adX mg) {x:Str} {n:Int} {t:Tok} (a:bM K adX x=some (some (.int n t))):Ci mg x n:=⟨_,bD X G a,⟨t,rfl⟩⟩
def Xs (X:K.In h) (G:h.Ns adX mg) {a:Addr} (e:bM K adX "NUMBERS" =some (some (.ref a))) (l:vg K (.ref a)=some fV): ∃a,mg "NUMBERS" =some (.ref a)/\vg K (.ref a)=some fV:=⟨a,bD X G e,l⟩
def VD {P:adT} {w:adQ} (X:K.In h) (G:h.Ns adX mg) {a ep:Nat} {h7 h9 BB:Int} {t7 t9 Vw:Tok} {v7 v9 CD:Value} {oc:Value} {od:Option Addr} {wA:Array (Option Value)} (e:bM K adX "ROWS" =some (some (.ref a)))
  (l:K.lookup a=some ⟨oc,od, .dict #[⟨h7, .int 7 t7,v7⟩,⟨h9, .int 9 t9,v9⟩,⟨BB, .int 12 Vw,CD⟩] ep,wA⟩) (c1:oc= .type "dict") (c2:od=none) (c3:wA= #[]) (c4:(a==ad4)=false) (e7:h7=aeu 7) (e9:h9=aeu 9) (e12:BB=aeu 12)
  (f7:vM K v7=some (5,40,[(0,675),(0,17575),(0,17575),(0,36524),(0,25)])) (f9:vM K v9=some (5,5,[(0,9)])) (f12:vM K CD=some (0,24,[(0,8),(0,999999999),(0,8)])):OX P w K mg:=by
 subst c1 c2 c3 e7 e9 e12;obtain ⟨a7,rfl,k7⟩:=rS f7;obtain ⟨a9,rfl,k9⟩:=rS f9;obtain ⟨U6,rfl,k12⟩:=rS f12;refine ⟨a, .ref a7, .ref a9, .ref U6,bD X G e,⟨c4,_,[(az 7, .ref a7),(az 9, .ref a9),(az 12, .ref U6)],l, .cons ⟨rfl,rfl⟩ (.cons ⟨rfl,rfl⟩ (.cons ⟨rfl,rfl⟩ .nil)),_,ep,⟨rfl,rfl,rfl⟩,rfl,?_,?_,?_⟩,k7,k9,k12⟩
 ·intro y hy;have hy:y∈ [(⟨aeu 7, .int 7 t7, .ref a7⟩:aeL),⟨aeu 9, .int 9 t9, .ref a9⟩,⟨aeu 12, .int 12 Vw, .ref U6⟩]:=by simpa using hy
  rcases aD.mp hy with rfl|hy
  ·exact ⟨az 7,iM 7 t7,rfl⟩
  rcases aD.mp hy with rfl|hy
  ·exact ⟨az 9,iM 9 t9,rfl⟩
  rcases aD.mp hy with rfl|hy
  ·exact ⟨az 12,iM 12 Vw,rfl⟩
  ·cases hy
 ·exact .cons (iM 7 t7) rfl (.cons (iM 9 t9) rfl (.cons (iM 12 Vw) rfl .nil))
 ·show ([az 7,az 9,az 12]:List Key).Nodup;decide
def Iv {a:Addr} {oc:Value} {od:Option Addr} {fs:List Addr} {n:Nat} {wA:Array (Option Value)} (hl:fs.length<=100) (l:K.lookup a=some ⟨oc,od, .seq (fs.map Value.ref).toArray n,wA⟩) (hc:oc= .type "tuple"):wk K a (fs.map V.ref):=
 ⟨_,_,n,l,hc,rfl,by rw [bf,ab];exact aV hl (by decide),by simpa using En fs⟩
def PU (X:K.In h) (G:h.Ns adX mg) {a n:Nat} {f0 f1 f2 f3 f4 f5 f6 f7:Addr} {oc:Value} {od:Option Addr} {wA:Array (Option Value)} (e:bM K adX "CHANGES" =some (some (.ref a))) (l:K.lookup a=some ⟨oc,od, .seq #[.ref f0, .ref f1, .ref f2, .ref f3, .ref f4, .ref f5, .ref f6, .ref f7] n,wA⟩) (hc:oc= .type "tuple")
  (e0:bM K adX "put_fare" =some (some (.ref f0))) (e1:bM K adX "take_fare" =some (some (.ref f1))) (e2:bM K adX "put_combination" =some (some (.ref f2))) (e3:bM K adX "put_floor" =some (some (.ref f3))) (e4:bM K adX "put_tax" =some (some (.ref f4))) (e5:bM K adX "put_percent" =some (some (.ref f5))) (e6:bM K adX "put_unit" =some (some (.ref f6))) (e7:bM K adX "put_journey" =some (some (.ref f7))):si K mg:=
 ⟨⟨a,[f0,f1,f2,f3,f4,f5,f6,f7],bD X G e,Iv (fs:= [f0,f1,f2,f3,f4,f5,f6,f7]) (by simp) l hc,by simp only [be,gR,bD X G e0,bD X G e1,bD X G e2,bD X G e3,bD X G e4,bD X G e5,bD X G e6,bD X G e7]⟩⟩
def MY (X:K.In h) (G:h.Ns adX mg) {a n:Nat} {f0 f1 f2 f3 f4 f5 f6 f7 f8 f9:Addr} {oc:Value} {od:Option Addr} {wA:Array (Option Value)} (e:bM K adX "QUESTIONS" =some (some (.ref a))) (l:K.lookup a=some ⟨oc,od, .seq #[.ref f0, .ref f1, .ref f2, .ref f3, .ref f4, .ref f5, .ref f6, .ref f7, .ref f8, .ref f9] n,wA⟩) (hc:oc= .type "tuple")
  (e0:bM K adX "tell_price" =some (some (.ref f0))) (e1:bM K adX "tell_party" =some (some (.ref f1))) (e2:bM K adX "tell_singles" =some (some (.ref f2))) (e3:bM K adX "tell_pair" =some (some (.ref f3))) (e4:bM K adX "tell_check" =some (some (.ref f4))) (e5:bM K adX "tell_alone" =some (some (.ref f5))) (e6:bM K adX "tell_count" =some (some (.ref f6))) (e7:bM K adX "tell_prefixes" =some (some (.ref f7))) (e8:bM K adX "tell_fares" =some (some (.ref f8))) (e9:bM K adX "tell_journey" =some (some (.ref f9))):nX K mg:=
 ⟨⟨a,[f0,f1,f2,f3,f4,f5,f6,f7,f8,f9],bD X G e,Iv (fs:= [f0,f1,f2,f3,f4,f5,f6,f7,f8,f9]) (by simp) l hc,by simp only [be,gR,bD X G e0,bD X G e1,bD X G e2,bD X G e3,bD X G e4,bD X G e5,bD X G e6,bD X G e7,bD X G e8,bD X G e9]⟩⟩
end
end Lf
namespace Lf
def ck {Q:VK} {H:Hp} {a b:Bool} (q:Q (.bl a) H) (e:a=b):Q (.bl b) H:=e▸q
def as_int {Q:VK} {H:Hp} {a b:Int} (q:Q (.int a) H) (e:a=b):Q (.int b) H:=e▸q
def dV (a b:Int):decide (V.int a=V.int b)=decide (a=b):=by
 rw [decide_eq_decide];exact ⟨λz=>V.int.inj z,λz=>congrArg V.int z⟩
def iB {c:Bool} {A B:Prop} (h1:c=true->A) (h2:c=false->B):if c=true then A else B:=by
 cases c with
 |true=>exact (if_pos rfl).mpr (h1 rfl)
 |false=>exact (if_neg aJ).mpr (h2 rfl)
def aB.put {H H':Hp} {D:Addr} {o:HO} (s:aB H H') (n:H D=none):aB H (upd H' D o):=λb u e=>by
 rw [bL (aG e n)];exact s b u e
def vw {H:Hp} {p q D:Addr} {u o o':HO} (hp:H p=some u) (hq:H q=none) (hD:p≠D):upd (upd H q o) D o' p=some u:=by
 rw [bL hD,bL (aG hp hq)];exact hp
def bp {H:Hp} {p D:Addr} {u o':HO} (hp:H p=some u) (hD:p≠D):upd H D o' p=some u:=by
 rw [bL hD];exact hp
def dX (ps:List Addr) (p:Addr):ps.map V.ref++ [.ref p]=(ps++ [p]).map V.ref:=by rw [aO];rfl
def ints_snoc (ps:List Int) (p:Int):ps.map V.int++ [.int p]=(ps++ [p]).map V.int:=by rw [aO];rfl
def neT {a b:Int} {A B:Prop} (h: ¬a=b) (q:A):if (!decide (V.int a=V.int b))=true then A else B:=by
 rw [dV,decide_eq_false h];exact o0 q
def Rw {a b:Int} {A B:Prop} (h:a=b) (q:B):if (!decide (V.int a=V.int b))=true then A else B:=by
 rw [dV,decide_eq_true h];exact tq q
def eqT {a b:Int} {A B:Prop} (h:a=b) (q:A):if decide (V.int a=V.int b)=true then A else B:=by
 rw [dV,decide_eq_true h];exact o0 q
def LO {a b:Int} {A B:Prop} (h: ¬a=b) (q:B):if decide (V.int a=V.int b)=true then A else B:=by
 rw [dV,decide_eq_false h];exact tq q
def dT {c A B:Prop} [Decidable c] (h:c) (q:A):if decide c=true then A else B:=by
 rw [decide_eq_true h];exact o0 q
def dF {c A B:Prop} [Decidable c] (h: ¬c) (q:B):if decide c=true then A else B:=by
 rw [decide_eq_false h];exact tq q
def dQ {α:Type}: ∀{l:List α} {i:Nat} {x:α},l[i]?=some x->l.take (i+1)=l.take i++ [x]
 | [],i,x,h=>by simp at h
 |a::l,0,x,h=>by
  have e:a=x:=bx h;subst e;rfl
 |a::l,i+1,x,h=>by
  have ih:=dQ (l:=l) (i:=i) (x:=x) h;rw [List.take_succ_cons,ih];rfl
def AS {f:Str} {y:V}: ∀{ns:List Str} {vs:List V},ns.length=vs.length->f∉ns->li f y (ns.zip vs)=(ns++ [f]).zip (vs++ [y])
 | [],[],_,_=>rfl
 | [],_::_,h,_=>by cases h
 |_::_,[],h,_=>by cases h
 |n::ns,v::vs,h,hf=>by
  have h1: ¬n=f:=λe=>hf (by rw [e];exact aM);have ih:=AS (f:=f) (y:=y) (ns:=ns) (vs:=vs) (by simpa using h) λz=>hf (aF _ z);show (if n=f then (n,y)::ns.zip vs else (n,v)::li f y (ns.zip vs))=_;rw [if_neg h1,ih];rfl
def um {f:Str} {v:V}: ∀{ns:List Str} {vs:List V} {i:Nat},ns.Nodup->ns[i]?=some f->vs[i]?=some v->(ns.zip vs).lookup f=some v
 | [],_,i,_,h,_=>by simp at h
 |_::_,[],i,_,_,h=>by simp at h
 |n::ns,w::vs,0,_,h1,h2=>by
  have e1:n=f:=by simpa using h1
  have e2:w=v:=by simpa using h2
  subst e1 e2;simp [fW]
 |n::ns,w::vs,i+1,nd,h1,h2=>by
  obtain ⟨n1,n2⟩:=bo.mp nd;have h1:ns[i]?=some f:=by simpa using h1
  have gp:(f==n)=false:=by
   rw [beq_eq_false_iff_ne];intro e;exact n1 (by rw [<-e];exact aI h1)
  show (match f==n with|true=>some w|false=>(ns.zip vs).lookup f)=some v;rw [gp];exact um n2 h1 (by simpa using h2)
def sN {K:aa} {D:L2.Ends} {σ:L2.St} {H:Hp} {a C dx:Addr} {ns:List Str} {vs:List V} {f:Str} {y:V} (hx:H a=some (.ins C dx (ns.zip vs))/\ns.length=vs.length) (cl:El K C) (nf:bF K C f) (k: ∀H',(H' a=some (.ins C dx ((ns++ [f]).zip (vs++ [y])))/\(ns++ [f]).length=(vs++ [y]).length)->dH a H H'->D.nx σ H')
  (hf:f∉ns:=by decide+kernel) (hn:ns.length<1000:=by decide):
  ∃(a' C' dx':Addr) (UH:List (Str×V)),V.ref a= .ref a'/\H a'=some (.ins C' dx' UH)/\El K C'/\bF K C' f/\UH.length<1000/\D.nx σ (upd H a' (.ins C' dx' (li f y UH))):=by
 refine ⟨a,C,dx,_,rfl,hx.1,cl,nf,?_,?_⟩
 ·rw [eA];exact cy (oW _ _) hn
 ·rw [AS hx.2 hf];exact k _ ⟨ak,by rw [aL,aL,hx.2];rfl⟩ dH.upd
def cM {K:aa} {H:Hp} {a C dx:Addr} {ns:List Str} {vs:List V} {f:Str} {v:V} (i:Nat) (nd:ns.Nodup) (hx:H a=some (.ins C dx (ns.zip vs))) (cl:El K C) (nf:bF K C f) (h1:ns[i]?=some f:=by rfl) (h2:vs[i]?=some v:=by rfl):gM K H a f v:=⟨C,dx,_,hx,cl,nf,um nd h1 h2⟩
def DK {H:Hp} {x C dx:Addr} (h:H x=some (.ins C dx [])):H x=some (.ins C dx (([]:List Str).zip ([]:List V)))/\([]:List Str).length=([]:List V).length:=⟨h,rfl⟩
section
variable {X:Cx} {e f g:adS} {te tf tg:TE} {p pos:Pos}
def st (i:Nat) {x:Str} {pos':Pos} (nd:X.N.Nodup) (he:PE X e te) (hi:X.N[i]?=some x:=by rfl) (hx:Loc X.env.scope x:=by first|exact LQ rfl|exact FR rfl)
  (hs:aeo e (some (.Name x pos')) pos.line X.env=pure false:=by rfl) (hf:X.fn x=true∨X.env.scope.names.lookup x=some .local:=by first|exact .inl rfl|exact .inr rfl):PS X (.Assign [.Name x pos'] e pos) (Ml te (vJ i)):=Pu nd hi hx he hs hf
def gn (i:Nat) {x:Str} (nd:X.N.Nodup) (hi:X.N[i]?=some x:=by rfl) (hx:Loc X.env.scope x:=by first|exact LQ rfl|exact FR rfl) (hf:X.fn x=true∨X.env.scope.names.lookup x=some .local:=by first|exact .inl rfl|exact .inr rfl):
  PG X (.Name x pos) (vJ i):=MK nd hi hx hf
def eF (K:aa) {a:Str} (he:PE X e te) (hb:aeg e a X.env (eval e X.env)=eval e X.env:=by rfl) (hK:X.K=K:=by rfl):PE X (.Attribute e a pos) (Mg K te a):=hK▸aT he hb
def K6 (K:aa) (he:PE X e te) (hf:PE X f tf) (hs:zM f:=by exact λ_ _=>rfl) (hK:X.K=K:=by rfl):PE X (.Subscript e f pos) (O9 (SR K) te tf):=hK▸bi aZ he hf hs
def Y1 (K:aa) (he:PE X e te) (hf:PE X f tf) (hs:zM f:=by exact λ_ _=>rfl) (hK:X.K=K:=by rfl):PE X (.Subscript e f pos) (O9 (SQ K) te tf):=hK▸bi cK he hf hs
def UX (K:aa) {lo hi:Option adS} {p2:Pos} {tl th:TO} (he:PE X e te) (hl:PO X lo tl) (hh:PO X hi th) (hK:X.K=K:=by rfl):PE X (.Subscript e (.Slice lo hi none p2) pos) (Zo (SN K) te tl th):=hK▸qC tV he hl hh
def i4 (hm:X.mg "len" =none) (he:PE X e te) (hg:Gl X "len" :=by rfl) (hs:adU [e] X.env=(false,eval e X.env)::adU [] X.env:=by rfl):PE X (.Call (.Name "len" p) [e] [] pos) (Ro (λxs H Q=> ∃p ys,xs= [.ref p]/\(iF X.K H p ys∨zK X.K H p ys)/\Q (.int ys.length) H) (iC te oZ)):=
 d9 zE hg hm xp (ae he ax hs) (he:=hs) (hpl:=rfl)
def K5 (hm:X.mg "len" =none) (he:PE X e te) (hg:Gl X "len" :=by rfl) (hs:adU [e] X.env=(false,eval e X.env)::adU [] X.env:=by rfl):PE X (.Call (.Name "len" p) [e] [] pos) (Ro (λxs H Q=> ∃a kvs,xs= [V.ref a]/\H a=some (.dK kvs)/\Q (.int kvs.length) H) (iC te oZ)):=
 d9 HC hg hm xp (ae he ax hs) (he:=hs) (hpl:=rfl)
def QT (hm:X.mg "len" =none) (he:PE X e te) (hg:Gl X "len" :=by rfl) (hs:adU [e] X.env=(false,eval e X.env)::adU [] X.env:=by rfl):PE X (.Call (.Name "len" p) [e] [] pos) (Ro (λxs H Q=> ∃(a:Addr) (kvs:List (List Key×V)),xs= [V.ref a]/\H a=some (.dT kvs)/\Q (.int kvs.length) H) (iC te oZ)):=
 d9 Ea hg hm xp (ae he ax hs) (he:=hs) (hpl:=rfl)
def UY (hc:X.calm=true) (hm:X.mg "max" =none) (he:PE X e te) (hf:PE X f tf) (hg:Gl X "max" :=by rfl) (hs:adU [e,f] X.env=(false,eval e X.env)::adU [f] X.env:=by rfl) (Qk:adU [f] X.env=(false,eval f X.env)::adU [] X.env:=by rfl) (hpl:(ad2 pos (adU [f] X.env)).any (·.1)=false:=by rfl):
  PE X (.Call (.Name "max" p) [e,f] [] pos) (Ro (λxs H Q=> ∃i j,xs= [.int i, .int j]/\Q (.int (if j>i then j else i)) H) (iC te (iC tf oZ))):=
 d9 (Hz hc) hg hm WE (ae he (ae hf ax Qk) hs) (he:=hs) (hpl:=hpl)
def BJ {apos:Pos} (hf:PE X f tf) (he:PE X e te) (hbase:aeg f "append" X.env (eval f X.env)=eval f X.env:=by rfl) (hline:(apos.endLine==pos.line)=true:=by rfl) (hs:adU [e] X.env=(false,eval e X.env)::adU [] X.env:=by rfl)
  (hpl:((ad2 pos (adU [e] X.env)).all (λx=>!x.1)&&(aeq pos (aer [] X.env)).all (λx=>x.1.isSome)&&decide (([e]:List adS).length+([]:List aed).length+(if ([]:List aed).isEmpty then 0 else 1)<30))=true:=by rfl):
  PE X (.Call (.Attribute f "append" apos) [e] [] pos) (WV X.K "list" EQ tf (iC te oZ)):=
 Oq lM PySem.F.slot_list_append PySem.F.type_list_append GF hf (ae he ax hs) (hbase:=hbase) (hfew:=hpl) (hline:=hline) (hs:=hs) (hplain:=rfl)
def D0 {apos:Pos} (hf:PE X f tf) (he:PE X e te) (hbase:aeg f "extend" X.env (eval f X.env)=eval f X.env:=by rfl) (hline:(apos.endLine==pos.line)=true:=by rfl) (hs:adU [e] X.env=(false,eval e X.env)::adU [] X.env:=by rfl)
  (hpl:((ad2 pos (adU [e] X.env)).all (λx=>!x.1)&&(aeq pos (aer [] X.env)).all (λx=>x.1.isSome)&&decide (([e]:List adS).length+([]:List aed).length+(if ([]:List aed).isEmpty then 0 else 1)<30))=true:=by rfl):
  PE X (.Call (.Attribute f "extend" apos) [e] [] pos) (WV X.K "list" EO tf (iC te oZ)):=
 Oq lM PySem.F.slot_list_extend PySem.F.type_list_extend GE hf (ae he ax hs) (hbase:=hbase) (hfew:=hpl) (hline:=hline) (hs:=hs) (hplain:=rfl)
end
end Lf
namespace Lf
def SA (ns:List Int):bT:=⟨ns.getD 0 0,ns.getD 1 0,ns.getD 2 0,ns.getD 3 0,ns.getD 4 0⟩
def Od (K:aa) (C:Addr):Sp:=λvs H Q _=> ∃(x dx l:Addr) (ns:List Int),vs= [.ref x, .ref l]/\H x=some (.ins C dx [])/\H l=some (.lst (ns.map V.int))/\ns.length=5/\
 ∀H':Hp,dH x H H'->jn K H' x (SA ns)->gM K H' x "numbers" (.ref l)->Q .fY H'
section
variable {P:adT} {w:adQ} {K:aa} {mg:Str->Option Value} {base:adO} {t:CA}
def Pq:bh ["self","numbers"] ["self","numbers"] (aS (inClass (top 4) 0)):=fE
def Q2 (k:Ks K mg t):Cl P w K mg base "Segment" t.gh 1 ["self","numbers"] (Od K t.gh):=by
 refine k.gh.cl λf fd F cl=>F.ok Pq (λvs H Q E h=>?_) (λdD A outer s H vs Q E hr h=>?_)
 ·obtain ⟨_,_,_,_,rfl,_⟩:=h;rfl
 ·obtain ⟨x,dx,l,ns,rfl,hx,hl,h5,q⟩:=h;have nl:l≠x:=cg hl hx (λz=>nomatch z);have at_: ∀{H':Hp} (i:Nat),i<5->dH x H H'->∀{Q:V->Prop},Q (.int (ns.getD i 0))->∃(p:Addr) (xs:List V) (j:Int) (v:V),V.ref l= .ref p/\V.int (i:Int)= .int j/\iF K H' p xs/\FD xs j=some v/\Q v:=λ{H'} i hi b {Q} q=>by
   have e:ns[i]?=some (ns.getD i 0):=by rw [bj,ao (by omega)];rfl
   exact ⟨l,_,_,_,rfl,rfl, .of (b _ _ nl hl),at_of (j:=i) rfl (ir e),q⟩
  refine ⟨_,(am (bW (pv 0) (pv 1) rfl)
   (am (bW (pv 0) (bi aZ (pv 1) aE (λ_ _=>rfl)) rfl)
   (am (bW (pv 0) (bi aZ (pv 1) aE (λ_ _=>rfl)) rfl)
   (am (bW (pv 0) (bi aZ (pv 1) aE (λ_ _=>rfl)) rfl)
   (am (bW (pv 0) (bi aZ (pv 1) aE (λ_ _=>rfl)) rfl)
   (aA (bW (pv 0) (bi aZ (pv 1) aE (λ_ _=>rfl)) rfl))))))),?_⟩
  refine ⟨_,rfl,_,rfl,sN (DK hx) cl k.mG λH1 h1 b1=>?_⟩;refine ⟨_,rfl,at_ 0 (by decide) b1 ⟨_,rfl,sN h1 cl k.mH λH2 h2 b2=>?_⟩⟩;have b2:=b1.trans b2;refine ⟨_,rfl,at_ 1 (by decide) b2 ⟨_,rfl,sN h2 cl k.nZ λH3 h3 b3=>?_⟩⟩;have b3:=b2.trans b3;refine ⟨_,rfl,at_ 2 (by decide) b3 ⟨_,rfl,sN h3 cl k.nY λH4 h4 b4=>?_⟩⟩;have b4:=b3.trans b4;refine ⟨_,rfl,at_ 3 (by decide) b4 ⟨_,rfl,sN h4 cl k.sJ λH5 h5 b5=>?_⟩⟩;have b5:=b4.trans b5;refine ⟨_,rfl,at_ 4 (by decide) b5 ⟨_,rfl,sN h5 cl k.mI λH6 h6 b6=>?_⟩⟩;have b6:=b5.trans b6;have nd:(["numbers","carrier","origin","target","day","booking"]:List Str).Nodup:=by decide+kernel
  have h6:H6 x=some (.ins t.gh dx ((["numbers","carrier","origin","target","day","booking"]:List Str).zip [.ref l, .int (ns.getD 0 0), .int (ns.getD 1 0), .int (ns.getD 2 0), .int (ns.getD 3 0), .int (ns.getD 4 0)])):=h6.1;exact q H6 b6 ⟨cM 1 nd h6 cl k.mH,cM 2 nd h6 cl k.nZ,cM 3 nd h6 cl k.nY,cM 4 nd h6 cl k.sJ,cM 5 nd h6 cl k.mI⟩ (cM 0 nd h6 cl k.mG)
end
def IN (K:aa) (C:Addr):Sp:=λvs H Q _=> ∃(x dx l:Addr) (f:aq),vs= [.ref x, .ref l]/\H x=some (.ins C dx [])/\H l=some (.lst ((j4 f).map V.int))/\
 ∀H':Hp,dH x H H'->dB K H' x f->gM K H' x "numbers" (.ref l)->Q .fY H'
section
variable {P:adT} {w:adQ} {K:aa} {mg:Str->Option Value} {base:adO} {t:CA}
def Mx:bh ["self","numbers"] ["self","numbers"] (aS (inClass (top 3) 0)):=fE
def NS (k:Ks K mg t):Cl P w K mg base "Fare" t.Fare 1 ["self","numbers"] (IN K t.Fare):=by
 refine k.Fare.cl λf fd F cl=>F.ok Mx (λvs H Q E h=>?_) (λdD A outer s H vs Q E hr h=>?_)
 ·obtain ⟨_,_,_,_,rfl,_⟩:=h;rfl
 ·obtain ⟨x,dx,l,f,rfl,hx,hl,q⟩:=h;have nl:l≠x:=cg hl hx (λz=>nomatch z);have at_: ∀{H':Hp} (i:Nat) {n:Int},(j4 f)[i]?=some n->dH x H H'->∀{Q:V->Prop},Q (.int n)->∃(p:Addr) (xs:List V) (j:Int) (v:V),V.ref l= .ref p/\V.int (i:Int)= .int j/\iF K H' p xs/\FD xs j=some v/\Q v:=λ{H'} i {n} e b {Q} q=>
   ⟨l,_,_,_,rfl,rfl, .of (b _ _ nl hl),at_of (j:=i) rfl (ir e),q⟩
  refine ⟨_,(am (bW (pv 0) (pv 1) rfl)
   (am (bW (pv 0) (bi aZ (pv 1) aE (λ_ _=>rfl)) rfl)
   (am (bW (pv 0) (bi aZ (pv 1) aE (λ_ _=>rfl)) rfl)
   (am (bW (pv 0) (bi aZ (pv 1) aE (λ_ _=>rfl)) rfl)
   (am (bW (pv 0) (bi aZ (pv 1) aE (λ_ _=>rfl)) rfl)
   (am (bW (pv 0) (bi aZ (pv 1) aE (λ_ _=>rfl)) rfl)
   (am (bW (pv 0) (bi aZ (pv 1) aE (λ_ _=>rfl)) rfl)
   (am (bW (pv 0) (bi aZ (pv 1) aE (λ_ _=>rfl)) rfl)
   (am (bW (pv 0) (bi aZ (pv 1) aE (λ_ _=>rfl)) rfl)
   (am (bW (pv 0) (bi aZ (pv 1) aE (λ_ _=>rfl)) rfl)
   (am (bW (pv 0) (bi aZ (pv 1) aE (λ_ _=>rfl)) rfl)
   (am (bW (pv 0) (bi aZ (pv 1) aE (λ_ _=>rfl)) rfl)
   (am (bW (pv 0) (bi aZ (pv 1) aE (λ_ _=>rfl)) rfl)
   (am (bW (pv 0) (bi aZ (pv 1) aE (λ_ _=>rfl)) rfl)
   (am (bW (pv 0) (bi aZ (pv 1) aE (λ_ _=>rfl)) rfl)
   (aA (bW (pv 0) (bi aZ (pv 1) aE (λ_ _=>rfl)) rfl))))))))))))))))),?_⟩
  refine ⟨_,rfl,_,rfl,sN (DK hx) cl k.qV λH1 h1 b1=>?_⟩;refine ⟨_,rfl,at_ 0 (n:=f.key) rfl b1 ⟨_,rfl,sN h1 cl k.Ca λH2 h2 b2=>?_⟩⟩;have b2:=b1.trans b2;refine ⟨_,rfl,at_ 1 (n:=f.carrier) rfl b2 ⟨_,rfl,sN h2 cl k.qX λH3 h3 b3=>?_⟩⟩;have b3:=b2.trans b3;refine ⟨_,rfl,at_ 2 (n:=f.src) rfl b3 ⟨_,rfl,sN h3 cl k.yo λH4 h4 b4=>?_⟩⟩;have b4:=b3.trans b4;refine ⟨_,rfl,at_ 3 (n:=f.dst) rfl b4 ⟨_,rfl,sN h4 cl k.Cb λH5 h5 b5=>?_⟩⟩;have b5:=b4.trans b5;refine ⟨_,rfl,at_ 4 (n:=f.way) rfl b5 ⟨_,rfl,sN h5 cl k.B9 λH6 h6 b6=>?_⟩⟩;have b6:=b5.trans b6;refine ⟨_,rfl,at_ 5 (n:=f.amount) rfl b6 ⟨_,rfl,sN h6 cl k.sR λH7 h7 b7=>?_⟩⟩;have b7:=b6.trans b7;refine ⟨_,rfl,at_ 6 (n:=f.classes) rfl b7 ⟨_,rfl,sN h7 cl k.qW λH8 h8 b8=>?_⟩⟩;have b8:=b7.trans b8;refine ⟨_,rfl,at_ 7 (n:=f.weekdays) rfl b8 ⟨_,rfl,sN h8 cl k.pk λH9 h9 b9=>?_⟩⟩;have b9:=b8.trans b9;refine ⟨_,rfl,at_ 8 (n:=f.ahead) rfl b9 ⟨_,rfl,sN h9 cl k.mL λH10 Nl Wi=>?_⟩⟩;have Wi:=b9.trans Wi;refine ⟨_,rfl,at_ 9 (n:=f.leastStay) rfl Wi ⟨_,rfl,sN Nl cl k.mK λH11 Nk Wh=>?_⟩⟩;have Wh:=Wi.trans Wh;refine ⟨_,rfl,at_ 10 (n:=f.mostStay) rfl Wh ⟨_,rfl,sN Nk cl k.oo λH12 BB Wg=>?_⟩⟩;have Wg:=Wh.trans Wg;refine ⟨_,rfl,at_ 11 (n:=f.group) rfl Wg ⟨_,rfl,sN BB cl k.wo λH13 UD Wf=>?_⟩⟩;have Wf:=Wg.trans Wf;refine ⟨_,rfl,at_ 12 (n:=f.open_) rfl Wf ⟨_,rfl,sN UD cl k.om λH14 UC We=>?_⟩⟩;have We:=Wf.trans We;refine ⟨_,rfl,at_ 13 (n:=f.kinds) rfl We ⟨_,rfl,sN UC cl k.wm λH15 QB Wd=>?_⟩⟩;have Wd:=We.trans Wd;refine ⟨_,rfl,at_ 14 (n:=f.segs) rfl Wd ⟨_,rfl,sN QB cl k.jX λH16 wC Y8=>?_⟩⟩;have Y8:=Wd.trans Y8;have nd:(["numbers","key","carrier","near","far","way","amount","classes","weekdays","days_ahead","least_stay","most_stay","group","open_ends","kinds","most_segments"]:List Str).Nodup:=by decide+kernel
  have wC:H16 x=some (.ins t.Fare dx ((["numbers","key","carrier","near","far","way","amount","classes","weekdays","days_ahead","least_stay","most_stay","group","open_ends","kinds","most_segments"]:List Str).zip [.ref l, .int f.key, .int f.carrier, .int f.src, .int f.dst, .int f.way, .int f.amount, .int f.classes, .int f.weekdays, .int f.ahead, .int f.leastStay, .int f.mostStay, .int f.group, .int f.open_, .int f.kinds, .int f.segs])):=wC.1;exact q H16 Y8 ⟨cM 1 nd wC cl k.Ca,cM 2 nd wC cl k.qX,cM 3 nd wC cl k.yo,cM 4 nd wC cl k.Cb,cM 5 nd wC cl k.B9,cM 6 nd wC cl k.sR,cM 7 nd wC cl k.qW,cM 8 nd wC cl k.pk,cM 9 nd wC cl k.mL,cM 10 nd wC cl k.mK,cM 11 nd wC cl k.oo,cM 12 nd wC cl k.wo,cM 13 nd wC cl k.om,cM 14 nd wC cl k.wm,cM 15 nd wC cl k.jX⟩ (cM 0 nd wC cl k.qV)
def IM (K:aa) (C:Addr):Sp:=λvs H Q _=> ∃(x dx l:Addr) (n:Int),vs= [.ref x, .int n, .ref l]/\H x=some (.ins C dx [])/\∀H':Hp,dH x H H'->gM K H' x "now" (.int n)->gM K H' x "segments" (.ref l)->Q .fY H'
def Mv:bh ["self","now","segments"] ["self","now","segments"] (aS (inClass (top 5) 0)):=fE
def NR (k:Ks K mg t):Cl P w K mg base "Journey" t.Journey 1 ["self","now","segments"] (IM K t.Journey):=by
 refine k.Journey.cl λf fd F cl=>F.ok Mv (λvs H Q E h=>?_) (λdD A outer s H vs Q E hr h=>?_)
 ·obtain ⟨_,_,_,_,rfl,_⟩:=h;rfl
 ·obtain ⟨x,dx,l,n,rfl,hx,q⟩:=h;refine ⟨_,(am (bW (pv 0) (pv 1) rfl) (aA (bW (pv 0) (pv 2) rfl))),?_⟩;refine ⟨_,rfl,_,rfl,sN (DK hx) cl k.sO λH1 h1 b1=>?_⟩;refine ⟨_,rfl,_,rfl,sN h1 cl k.lG λH2 h2 b2=>?_⟩;have nd:(["now","segments"]:List Str).Nodup:=by decide+kernel
  have h2:H2 x=some (.ins t.Journey dx ((["now","segments"]:List Str).zip [.int n, .ref l])):=h2.1;exact q H2 (b1.trans b2) (cM 0 nd h2 cl k.sO) (cM 1 nd h2 cl k.lG)
end
end Lf
namespace Lf
def M5 (L:List (Int×Int)):List (List Key×V):=L.map λx=>([az x.1,az x.2],V.bl true)
def ur (g h:Int): ∀(L:List (Int×Int)),cx (M5 L) [az g,az h]=if L.contains (g,h)=true then some (.bl true) else none
 | []=>rfl
 |(a,b)::L=>by
  have ih:=ur g h L;unfold cx M5 at ih⊢;rw [be,List.contains_cons];by_cases e:(a,b)=(g,h)
  ·cases e;rw [nc (by simp)];simp
  ·have e2: ¬([az a,az b]:List Key)= [az g,az h]:=λz=>by
    simp only [eU,kR,and_true] at z;exact e (by rw [z.1,z.2])
   rw [iG (by simpa using e2),ih];have e3:((g,h)==(a,b))=false:=by
    rw [beq_eq_false_iff_ne];exact λz=>e z.symm
   rw [e3];rfl
def diag (n:Nat):List (Int×Int):=(bb n).map λi:Nat=>((i:Int),(i:Int))
def Hs (n:Nat):diag (n+1)=diag n++ [((n:Int),(n:Int))]:=by unfold diag;rw [eh,aO];rfl
def K9 (n:Nat):cx (M5 (diag n)) [az (n:Int),az (n:Int)]=none:=by
 rw [ur,if_neg];intro h;have h:=eW.mp h;unfold diag at h;obtain ⟨i,hi,e⟩:=aj.mp h;have:=bE.mp hi;simp only [gY] at e;omega
def EF (K:aa) (C:Addr):Sp:=λvs H Q _=> ∃(x dx:Addr),vs= [.ref x]/\H x=some (.ins C dx [])/\
 ∀(H':Hp) (h:HA),h.a=x->dH x H H'->ba K H' h eG []->(∀b∈h.foot,b≠x->H b=none)->Q .fY H'
section
variable {P:adT} {w:adQ} {K:aa} {mg:Str->Option Value} {base:adO} {t:CA}
def Ks.T1 (k:Ks K mg t) (cl:El K t.i6):Vf K t.i6:=⟨cl,k.sQ,k.jW,k.qU,k.sP,k.oe,k.wl,k.pj⟩
def AC:bh ["self","group"] ["self"] (aS (inClass (top 6) 0)):=fE
def Ld (k:Ks K mg t) (c:Cs mg) (b:Bl mg):Cl P w K mg base "House" t.i6 1 ["self"] (EF K t.i6):=by
 refine k.i6.cl λf fd F cl=>F.ok AC (λvs H Q E h=>?_) (λdD A outer s H vs Q E hr h=>?_)
 ·obtain ⟨_,_,rfl,_⟩:=h;rfl
 ·obtain ⟨x,dx,rfl,hx,q⟩:=h;have hu:=jP hr;refine ⟨_,(am (bW (pv 0) u5 rfl)
   (am (bW (pv 0) A2 rfl)
   (am (dw PassesOwn.never rfl (rM rfl b.range (ae (kG c.GROUPS) ax)) (gn 1 AC.nd)
    (aA (l6 hu (aT (pv 0) rfl) (fM (ae (pv 1) (ae (pv 1) ax))) iE rfl)))
   (am (bW (pv 0) A2 rfl)
   (am (bW (pv 0) u5 rfl)
   (am (bW (pv 0) (bX PH (bK (ae aE ax)) (kG c.Vd)) rfl)
   (am (bW (pv 0) aE rfl)
   (aA (bW (pv 0) l8 rfl))))))))),?_⟩
  intro pf TZ;refine ⟨_,rfl,sN (DK (bp hx (aG hx TZ))) cl k.sQ λH1 h1 b1=>?_⟩;have f1:H1 pf=some (.dK []):=b1 _ _ (aG hx TZ).symm ak;have B1:dH x H H1:=dH.trans (aB.but (aB.new TZ)) b1;intro pt LH;refine ⟨_,rfl,sN ⟨bp h1.1 (aG h1.1 LH),h1.2⟩ cl k.jW λH2 h2 b2=>?_⟩;have Tb:pf≠x:=(aG hx TZ).symm;have Os:pt≠x:=(aG h1.1 LH).symm;have t2:H2 pt=some (.dT []):=b2 _ _ Os ak;have f2:H2 pf=some (.dK []):=b2 _ _ Tb (bp f1 (aG f1 LH));have B2:dH x H H2:=(B1.trans (aB.but (aB.new LH))).trans b2;have PL:H pt=none:=by
   cases z:H pt with
   |none=>rfl
   |some o=>rw [B1 _ _ Os z] at LH;cases LH
  refine ⟨_,rfl,by decide,by decide,ia (n:=(8:Int).toNat) (λi σ H'=>(∃v,σ= [some (.ref x),v])/\dH pt H2 H'/\H' pt=some (.dT (M5 (diag i)))) ⟨⟨_,rfl⟩,λ_ _ _ e=>e,t2⟩ ?_ ?_⟩
  ·rintro i σ H' hi ⟨⟨v,rfl⟩,bt,ht⟩;have JR:=bt _ _ Os.symm h2.1;have hi:i<8:=hi;refine ⟨_,rfl,aH ⟨_,_,_,JR,cl,k.jW,rfl⟩ ⟨_,rfl,_,rfl,(by show 2<=sizeLine;decide),λp hp=>?_⟩⟩;have X8:pt≠p:=aG ht hp;refine ⟨pt,_,rfl,oq.t (k:= [az (i:Int),az (i:Int)]) (bp ht X8) ?_ ?_,⟨_,rfl⟩,?_,?_⟩
   ·rw [ak,oy];rfl
   ·unfold M5 diag;rw [ab,ab,bZ];exact bu hi (by decide)
   ·exact (bt.trans (aB.but (aB.new hp))).trans dH.upd
   ·rw [ak,qA _ (K9 i),Hs];unfold M5;rw [aO];rfl
  ·rintro σ H3 ⟨⟨v,rfl⟩,bt,ht⟩;have h3:=bt _ _ Os.symm h2.1;have f3:H3 pf=some (.dK []):=bt _ _ (cg f2 t2 (λz=>nomatch z)) f2;intro po LI;refine ⟨_,rfl,sN ⟨bp h3 (aG h3 LI),h2.2⟩ cl k.qU λH4 h4 b4=>?_⟩;have Lz:po≠x:=(aG h3 LI).symm;have f4:H4 pf=some (.dK []):=b4 _ _ Tb (bp f3 (aG f3 LI));have t4:H4 pt=some (.dT (M5 (diag 8))):=b4 _ _ Os (bp ht (aG ht LI));have o4:H4 po=some (.dT []):=b4 _ _ Lz ak;have nto:pt≠po:=aG ht LI;intro px pW;refine ⟨_,rfl,sN ⟨bp h4.1 (aG h4.1 pW),h4.2⟩ cl k.sP λH5 h5 b5=>?_⟩;have S7:px≠x:=(aG h4.1 pW).symm;have f5:H5 pf=some (.dK []):=b5 _ _ Tb (bp f4 (aG f4 pW));have t5:H5 pt=some (.dT (M5 (diag 8))):=b5 _ _ Os (bp t4 (aG t4 pW));have o5:H5 po=some (.dT []):=b5 _ _ Lz (bp o4 (aG o4 pW));have x5:H5 px=some (.dK []):=b5 _ _ S7 ak;have XA:pf≠px:=aG f4 pW;refine ⟨(by show 1<=sizeLine;decide),λl hl=>⟨l,_,_,rfl,rfl,ak,by decide,by decide,(by show 1*5<=sizeLine;decide),λp hp=>?_⟩⟩;have x1:=bp (o':= .lst [V.int 100]) h5.1 (aG h5.1 hl);have nl: ∀{a:Addr} {o:HO},H5 a=some o->a≠p:=λ{a o} z=>aG (bp (o':= .lst [V.int 100]) z (aG z hl)) hp;refine ⟨_,rfl,sN ⟨bp x1 (nl h5.1),h5.2⟩ cl k.oe λH6 h6 b6=>?_⟩;have up: ∀{a:Addr} {o:HO},a≠x->H5 a=some o->H6 a=some o:=λ{a o} n z=>b6 _ _ n (bp (bp z (aG z hl)) (nl z));have Co:p≠x:=(nl h5.1).symm;have p6:H6 p=some (.lst (eG.percents.map V.int)):=b6 _ _ Co (by rw [ak];rfl);refine ⟨_,rfl,sN h6 cl k.wl λH7 h7 b7=>?_⟩;refine ⟨_,rfl,sN h7 cl k.pj λH8 h8 b8=>?_⟩;have RS:dH x H6 H8:=b7.trans b8;have B8:dH x H H8:=λa o n z=>by
    have z2:=B2 a o n z;have z3:=bt a o (λe=>by rw [e,PL] at z;cases z) z2;have z4:=b4 a o n (bp z3 (aG z3 LI));have z5:=b5 a o n (bp z4 (aG z4 pW));exact RS a o n (up n z5)
   let h:HA:=⟨x,dx,t.i6,pf,pt,po,px,p,x⟩
   refine q H8 h rfl B8 ⟨IC,k.T1 cl,mY _,⟨.fY,h8.1,rfl⟩,⟨[],RS _ _ Tb (up Tb f5),bQ.nil,bQ.nil⟩,⟨_,RS _ _ Os (up Os t5),?_,?_,?_⟩,⟨[],RS _ _ Lz (up Lz o5),mY _⟩,⟨[],RS _ _ S7 (up S7 x5),mY _⟩,RS _ _ Co p6,XA,nto⟩ ?_
   ·show ((M5 (diag 8)).map (·.1)).Nodup;decide+kernel
   ·intro key hk;obtain ⟨y,hy,e⟩:=aj.mp hk;obtain ⟨z,hz,e2⟩:=aj.mp hy;obtain ⟨i,hi,e3⟩:=aj.mp hz;have:=bE.mp hi;subst e e2 e3;exact ⟨(i:Int),(i:Int),rfl,by omega,by omega,by omega,by omega⟩
   ·intro g g';rw [ur,show diag 8=eG.combos from by decide+kernel];cases eG.combos.contains (g,g')<;>rfl
   ·intro a ha gp;have fr: ∀{a:Addr} {o:HO},a≠x->H2 a=none->H a=none:=λ{a o} n z=>by
     cases y:H a with
     |none=>rfl
     |some o=>rw [B2 _ _ n y] at z;cases z
    rcases aD.mp ha with e|ha
    ·exact absurd e gp
    rcases aD.mp ha with e|ha
    ·rw [show a=pf from e];exact TZ
    rcases aD.mp ha with e|ha
    ·rw [show a=pt from e];exact PL
    rcases aD.mp ha with e|ha
    ·rw [show a=po from e];cases y:H po with
     |none=>rfl
     |some o=>rw [bt _ _ (λe=>by rw [e,PL] at y;cases y) (B2 _ _ Lz y)] at LI;cases LI
    rcases aD.mp ha with e|ha
    ·rw [show a=px from e];cases y:H px with
     |none=>rfl
     |some o=>
      have z3:=bt _ _ (λe=>by rw [e,PL] at y;cases y) (B2 _ _ S7 y);rw [b4 _ _ S7 (bp z3 (aG z3 LI))] at pW;cases pW
    rcases aD.mp ha with e|ha
    ·rw [show a=p from e];cases y:H p with
     |none=>rfl
     |some o=>
      have z3:=bt _ _ (λe=>by rw [e,PL] at y;cases y) (B2 _ _ Co y);have z4:=b4 _ _ Co (bp z3 (aG z3 LI));have z5:=b5 _ _ Co (bp z4 (aG z4 pW));rw [bp z5 (aG z5 hl)] at hp;cases hp
    ·cases ha
end
end Lf
namespace Lf
open Vbahaf (bitOf)
def tU:Sp:=λvs H Q _=> ∃(m k:Int),vs= [.int m, .int k]/\0<=k/\Q (.bl (bitOf m k)) H
def takes (f:aq) (gs:List bT):Bool:=gs.all λs=>(decide (f.carrier= -1)||decide (s.carrier=f.carrier))&&bitOf f.classes s.cls
def EA (K:aa):Sp:=λvs H Q _=> ∃(fa la:Addr) (as:List Addr) (f:aq) (gs:List bT),vs= [.ref fa, .ref la]/\dB K H fa f/\H la=some (.lst (as.map V.ref))/\bQ (jn K H) as gs/\(∀g∈gs,0<=g.cls)/\Q (.bl (takes f gs)) H
section
variable {P:adT} {w:adQ} {K:aa} {mg:Str->Option Value} {base:adO}
def IZ:bh ["mask","digit"] ["mask","digit"] (aS (top 44)):=fE
def KL (D:Dn K mg "has_digit" (top 44) ["mask","digit"]):Fn P w K mg base "has_digit" 1 ["mask","digit"] tU:=by
 refine D.fn λf fd F=>F.ok IZ (λvs H Q E h=>?_) (λdD A outer s H vs Q E hr h=>?_)
 ·obtain ⟨m,k,rfl,_⟩:=h;rfl
 ·obtain ⟨m,k,rfl,hk,q⟩:=h;refine ⟨_,aA (aY (dM gg (bX y6 (bX JA (pv 0) (pv 1)) aE) aE (bR _))),?_⟩;refine ⟨_,rfl,_,rfl,_,_,rfl,rfl,hk,_,_,rfl,rfl,rfl,?_⟩;refine ck q ?_;show bitOf m k=decide (V.int (Builtin.bitAnd (m/2^k.toNat) 1)=V.int 1);rw [dV,bitAnd_m1];rfl
def AA:bh ["fare","segments","segment"] ["fare","segments"] (aS (top 45)):=fE
def Kr (D:Dn K mg "takes_segments" (top 45) ["fare","segments"]) (G1:Fn P w K mg base "has_digit" 1 ["mask","digit"] tU) (c:Ci mg "ANY_CARRIER" (-1)):Fn P w K mg base "takes_segments" 2 ["fare","segments"] (EA K):=by
 refine D.fn λf fd F=>F.ok AA (λvs H Q E h=>?_) (λdD A outer s H vs Q E hr h=>?_)
 ·obtain ⟨fa,la,as,f,gs,rfl,_⟩:=h;rfl
 ·obtain ⟨fa,la,as,f,gs,rfl,hf,hl,hs,hc,q⟩:=h;refine ⟨_,(am (dw PassesOwn.never rfl (cE (pv 1)) (gn 2 AA.nd)
    (am (cF (pM (cD va (aT (pv 0) rfl) (kG c) (bR _)) (l5 (cD va (aT (pv 0) rfl) (aT (pv 2) rfl) (bR _)))).pt
    (aA (aY iE))
    bI)
   (aA (cF (ip (eV (pc G1 (hr.mono (by decide)) (ae (aT (pv 0) rfl) (ae (aT (pv 2) rfl) ax)))))
    (aA (aY iE))
    bI))))
   (aA (aY iE))),?_⟩
  refine ⟨_,rfl,la,rfl,⟨_, .of hl⟩,fc (K:=K) (a:=la) (xs:=as.map V.ref) (λi σ H'=>H'=H/\takes f (gs.take i)=true/\∃v,σ= [some (.ref fa),some (.ref la),v]) ⟨rfl,rfl,_,rfl⟩ (λi σ H' _ ⟨e,_⟩=>by rw [e];exact .of hl) ?_ ?_⟩
  ·rintro i x σ H' hx ⟨rfl,ht,v,rfl⟩;obtain ⟨a,ha,rfl⟩:=b0 hx;obtain ⟨g,hg,sa⟩:=hs.get' ha;have ht':((decide (f.carrier= -1)||decide (g.carrier=f.carrier))&&bitOf f.classes g.cls)=true->takes f (gs.take (i+1))=true:=λe=>by
    unfold takes at ht⊢;rw [dQ hg,il,ht,gq,e];rfl
   have hF:((decide (f.carrier= -1)||decide (g.carrier=f.carrier))&&bitOf f.classes g.cls)=false->takes f gs=false:=λe=>by
    unfold takes;rw [iJ];exact ⟨g,aI hg,by rw [e];exact aJ⟩
   have two:(decide (f.carrier= -1)||decide (g.carrier=f.carrier))=true->Sh (Sb (tB (Ep tU [] E0 (iC (Mg K (yF 0) "classes") (iC (Mg K (yF 2) "booking") oZ))))) (R6 (tC (V.bl false))) Oa
     {nx:=λσ Rf=>Rf=H'/\takes f (gs.take (i+1))=true/\∃v,σ= [some (.ref fa),some (.ref la),v],rt:=Q,bk:=λ_ _=>False,ct:=λ_ _=>False} [some (.ref fa),some (.ref la),some (.ref a)] H':=λh=>by
    refine ⟨_,rfl,aH hf.classes ⟨_,rfl,aH sa.ub ⟨_,_,rfl,hc g (aI hg),_,rfl,?_⟩⟩⟩;refine iB (λh1=>?_) (λh1=>?_)
    ·have h1:bitOf f.classes g.cls=false:=by simpa using h1
     exact ck q (hF (by rw [h,h1];rfl))
    ·have h1:bitOf f.classes g.cls=true:=by simpa using h1
     exact ⟨rfl,ht' (by rw [h,h1];rfl),_,rfl⟩
   refine ⟨_,rfl,aH hf.carrier ⟨rfl,_,rfl,?_⟩⟩;by_cases h1:f.carrier= -1
   ·refine Rw h1 ?_;exact tq (two (by simp [h1]))
   ·refine neT h1 ⟨_,rfl,aH hf.carrier ⟨_,rfl,aH sa.carrier ⟨rfl,_,rfl,?_⟩⟩⟩;by_cases h2:f.carrier=g.carrier
    ·rw [dV,decide_eq_true h2];exact tq (two (by simp [h2]))
    ·rw [dV,decide_eq_false h2];exact o0 (ck q (hF (by have: ¬g.carrier=f.carrier:=λz=>h2 z.symm;simp [h1,this])))
  ·rintro σ H' ⟨rfl,ht,v,rfl⟩;rw [ab,hs.1,bq] at ht;rw [ht] at q;exact q
end
end Lf
namespace Lf
open Vbahaf (bitOf cut srcOf dstOf dayOf suits single outward homeward)
def kg (K:aa) (ok:ai->Int->aq->cG->Bool):Sp:=λvs H Q _=> ∃(fa ca:Addr) (f:aq) (s:ag) (j:ai) (i e:Nat) (af:Int) (B:Addr->Prop),vs= [.ref fa, .ref ca, .int af]/\dB K H fa f/\eJ K H B s j i e ca/\0<=af/\Wm j/\Q (.bl (ok j af f (cut j i e))) H
def uH (K:aa) (ok:aq->cG->Bool):Sp:=λvs H Q _=> ∃(fa ca:Addr) (f:aq) (s:ag) (j:ai) (i e:Nat) (B:Addr->Prop),vs= [.ref fa, .ref ca]/\dB K H fa f/\eJ K H B s j i e ca/\Q (.bl (ok f (cut j i e))) H
def jz (f:aq) (c:cG):Bool:=decide (f.src=srcOf c)&&decide (f.dst=dstOf c)
def lA (f:aq) (c:cG):Bool:=decide (f.dst=srcOf c)&&decide (f.src=dstOf c)
def Pn {j:ai} (h:Wm j) {g:bT} (hg:g∈j.segs):(0<=g.carrier/\g.carrier<=675)/\(0<=g.src/\g.src<=17575)/\(0<=g.dst/\g.dst<=17575)/\(0<=g.day/\g.day<=36524)/\(0<=g.cls/\g.cls<=25):=by
 have:=h.seg g hg;unfold iA bY cz at this;simp only [aU,cr] at this;obtain ⟨⟨⟨⟨a,b⟩,c⟩,d⟩,e⟩:=this;exact ⟨a,b,c,d,e⟩
def M3 {j:ai} {i e:Nat} {g:bT} (h:g∈cut j i e):g∈j.segs:=List.mem_of_mem_drop (FT h)
def IA (j:ai) (af:Int) (f:aq) (c:cG):suits j af f c=(bitOf f.kinds af&&(bitOf f.weekdays ((dayOf c+5)%7)&&(decide ((c.length:Int)<=f.segs)&&(decide (f.ahead<=dayOf c-j.now)&&takes f c)))):=by
 unfold suits Vbahaf.weekday takes;rw [Int.add_sub_cancel];cases bitOf f.kinds af<;>cases bitOf f.weekdays ((dayOf c+5)%7)<;>cases decide ((c.length:Int)<=f.segs)<;>cases decide (f.ahead<=dayOf c-j.now)<;>simp
section
variable {P:adT} {w:adQ} {K:aa} {mg:Str->Option Value} {base:adO}
def IQ:bh ["fare","component","kind"] ["fare","component","kind"] (aS (top 46)):=fE
def Kt (D:Dn K mg "suits" (top 46) ["fare","component","kind"]) (G1:Fn P w K mg base "has_digit" 1 ["mask","digit"] tU) (G2:Fn P w K mg base "takes_segments" 2 ["fare","segments"] (EA K)) (b:Bl mg) (c:Ci mg "SATURDAY_DIGIT" 5):
  Fn P w K mg base "suits" 3 ["fare","component","kind"] (kg K suits):=by
 refine D.fn λf fd F=>F.ok IQ (λvs H Q E h=>?_) (λdD A outer s H vs Q E hr h=>?_)
 ·obtain ⟨_,_,_,_,_,_,_,_,_,rfl,_⟩:=h;rfl
 ·obtain ⟨fa,ca,f,st,j,i,e,af,B,rfl,hf,hc,hk,hj,q⟩:=h;obtain ⟨la,as,_,h1,h2,h3⟩:=hc.segs;refine ⟨_,(aA (aY (eI (pc G1 (hr.mono (by decide)) (ae (aT (pv 0) rfl) (ae (pv 2) ax))) (eI (pc G1 (hr.mono (by decide)) (ae (aT (pv 0) rfl) (ae (bX Df (bX fN (aT (pv 1) rfl) (kG c)) aE) ax)))
   (eI (dM vc (i4 b.len (aT (pv 1) rfl)) (aT (pv 0) rfl) (bR _)) (eI (dM E4 (aT (pv 1) rfl) (aT (pv 0) rfl) (bR _)) (jL (pc G2 (hr.mono (by decide)) (ae (pv 0) (ae (aT (pv 1) rfl) ax)))))))))),?_⟩
  have key:=IA j af f (cut j i e);have hlen:as.length=(cut j i e).length:=h3.1;refine ⟨_,rfl,aH hf.kinds ⟨_,rfl,_,_,rfl,hk,_,rfl,?_⟩⟩;refine iB (λe1=>?_) (λe1=>ck q (by rw [key,e1];rfl));refine ⟨_,rfl,aH hf.weekdays ⟨_,rfl,aH hc.day ⟨_,_,rfl,rfl,_,_,rfl,rfl,(by show (0:Int)<7;decide),_,_,rfl,Int.emod_nonneg _ (by decide),_,rfl,?_⟩⟩⟩;refine iB (λe2=>?_) (λe2=>ck q (by rw [key,e1,e2];rfl));refine ⟨_,rfl,aH h1 ⟨la,_,rfl, .inl (.of h2),_,rfl,aH hf.iS ⟨_,_,rfl,rfl,_,rfl,?_⟩⟩⟩;rw [ab,hlen];refine iB (λe3=>?_) (λe3=>ck q (by rw [key,e1,e2,e3];rfl));refine ⟨_,rfl,aH hc.yf ⟨_,rfl,aH hf.mo ⟨_,_,rfl,rfl,_,rfl,?_⟩⟩⟩;refine iB (λe4=>?_) (λe4=>ck q (by rw [key,e1,e2,e3,e4];rfl));refine ⟨_,rfl,_,rfl,aH h1 ⟨fa,la,as,f,_,rfl,hf,h2,h3,λg hg=>(Pn hj (M3 hg)).2.2.2.2.1,?_⟩⟩;exact ck q (by rw [key,e1,e2,e3,e4];rfl)
def Mu:bh ["fare","component"] ["fare","component"] (aS (top 47)):=fE
def NC (D:Dn K mg "leads_out" (top 47) ["fare","component"]):Fn P w K mg base "leads_out" 1 ["fare","component"] (uH K jz):=by
 refine D.fn λf fd F=>F.ok Mu (λvs H Q E h=>?_) (λdD A outer s H vs Q E hr h=>?_)
 ·obtain ⟨_,_,_,_,_,_,_,_,rfl,_⟩:=h;rfl
 ·obtain ⟨fa,ca,f,st,j,i,e,B,rfl,hf,hc,q⟩:=h;refine ⟨_,(aA (aY (eI (dM gg (aT (pv 0) rfl) (aT (pv 1) rfl) (bR _)) (jL (dM gg (aT (pv 0) rfl) (aT (pv 1) rfl) (bR _)))))),?_⟩;refine ⟨_,rfl,aH hf.near ⟨_,rfl,aH hc.origin ⟨rfl,_,rfl,?_⟩⟩⟩;rw [dV];refine iB (λe1=>?_) (λe1=>ck q (by unfold jz;rw [e1];rfl));refine ⟨_,rfl,aH hf.RO ⟨_,rfl,aH hc.target ⟨rfl,?_⟩⟩⟩;exact ck q (by unfold jz;rw [dV,e1];rfl)
def IV:bh ["fare","component"] ["fare","component"] (aS (top 48)):=fE
def KF (D:Dn K mg "leads_home" (top 48) ["fare","component"]):Fn P w K mg base "leads_home" 1 ["fare","component"] (uH K lA):=by
 refine D.fn λf fd F=>F.ok IV (λvs H Q E h=>?_) (λdD A outer s H vs Q E hr h=>?_)
 ·obtain ⟨_,_,_,_,_,_,_,_,rfl,_⟩:=h;rfl
 ·obtain ⟨fa,ca,f,st,j,i,e,B,rfl,hf,hc,q⟩:=h;refine ⟨_,(aA (aY (eI (dM gg (aT (pv 0) rfl) (aT (pv 1) rfl) (bR _)) (jL (dM gg (aT (pv 0) rfl) (aT (pv 1) rfl) (bR _)))))),?_⟩;refine ⟨_,rfl,aH hf.RO ⟨_,rfl,aH hc.origin ⟨rfl,_,rfl,?_⟩⟩⟩;rw [dV];refine iB (λe1=>?_) (λe1=>ck q (by unfold lA;rw [e1];rfl));refine ⟨_,rfl,aH hf.near ⟨_,rfl,aH hc.target ⟨rfl,?_⟩⟩⟩;exact ck q (by unfold lA;rw [dV,e1];rfl)
def Ge:bh ["fare","component","kind"] ["fare","component","kind"] (aS (top 49)):=fE
def Hh (D:Dn K mg "fits_singly" (top 49) ["fare","component","kind"]) (G1:Fn P w K mg base "leads_out" 1 ["fare","component"] (uH K jz)) (G2:Fn P w K mg base "suits" 3 ["fare","component","kind"] (kg K suits)) (c:Ci mg "ONE_WAY" 0):
  Fn P w K mg base "fits_singly" 4 ["fare","component","kind"] (kg K single):=by
 refine D.fn λf fd F=>F.ok Ge (λvs H Q E h=>?_) (λdD A outer s H vs Q E hr h=>?_)
 ·obtain ⟨_,_,_,_,_,_,_,_,_,rfl,_⟩:=h;rfl
 ·obtain ⟨fa,ca,f,st,j,i,e,af,B,rfl,hf,hc,hk,hj,q⟩:=h;have key:single j af f (cut j i e)=(decide (f.way=0)&&(jz f (cut j i e)&&suits j af f (cut j i e))):=by unfold single jz;simp only [yx]
  refine ⟨_,(aA (aY (eI (dM gg (aT (pv 0) rfl) (kG c) (bR _)) (eI (pc G1 (hr.mono (by decide)) (ae (pv 0) (ae (pv 1) ax))) (jL (pc G2 (hr.mono (by decide)) (ae (pv 0) (ae (pv 1) (ae (pv 2) ax))))))))),?_⟩;refine ⟨_,rfl,aH hf.way ⟨rfl,_,rfl,?_⟩⟩;rw [dV];refine iB (λe1=>?_) (λe1=>ck q (by rw [key,e1];rfl));refine ⟨_,rfl,_,rfl,fa,ca,f,st,j,i,e,B,rfl,hf,hc,_,rfl,?_⟩;refine iB (λe2=>?_) (λe2=>ck q (by rw [key,e1,e2];rfl));refine ⟨_,rfl,_,rfl,_,rfl,fa,ca,f,st,j,i,e,af,B,rfl,hf,hc,hk,hj,?_⟩;exact ck q (by rw [key,e1,e2];rfl)
def Mw:bh ["fare","component","kind"] ["fare","component","kind"] (aS (top 50)):=fE
def ND (D:Dn K mg "fits_out" (top 50) ["fare","component","kind"]) (G1:Fn P w K mg base "leads_out" 1 ["fare","component"] (uH K jz)) (G2:Fn P w K mg base "suits" 3 ["fare","component","kind"] (kg K suits)) (c:Ci mg "HALF_OF_RETURN" 1):
  Fn P w K mg base "fits_out" 4 ["fare","component","kind"] (kg K outward):=by
 refine D.fn λf fd F=>F.ok Mw (λvs H Q E h=>?_) (λdD A outer s H vs Q E hr h=>?_)
 ·obtain ⟨_,_,_,_,_,_,_,_,_,rfl,_⟩:=h;rfl
 ·obtain ⟨fa,ca,f,st,j,i,e,af,B,rfl,hf,hc,hk,hj,q⟩:=h;have key:outward j af f (cut j i e)=(decide (f.way=1)&&(jz f (cut j i e)&&suits j af f (cut j i e))):=by unfold outward jz;simp only [yx]
  refine ⟨_,(aA (aY (eI (dM gg (aT (pv 0) rfl) (kG c) (bR _)) (eI (pc G1 (hr.mono (by decide)) (ae (pv 0) (ae (pv 1) ax))) (jL (pc G2 (hr.mono (by decide)) (ae (pv 0) (ae (pv 1) (ae (pv 2) ax))))))))),?_⟩;refine ⟨_,rfl,aH hf.way ⟨rfl,_,rfl,?_⟩⟩;rw [dV];refine iB (λe1=>?_) (λe1=>ck q (by rw [key,e1];rfl));refine ⟨_,rfl,_,rfl,fa,ca,f,st,j,i,e,B,rfl,hf,hc,_,rfl,?_⟩;refine iB (λe2=>?_) (λe2=>ck q (by rw [key,e1,e2];rfl));refine ⟨_,rfl,_,rfl,_,rfl,fa,ca,f,st,j,i,e,af,B,rfl,hf,hc,hk,hj,?_⟩;exact ck q (by rw [key,e1,e2];rfl)
def IY:bh ["fare","component","kind"] ["fare","component","kind"] (aS (top 51)):=fE
def KJ (D:Dn K mg "fits_home" (top 51) ["fare","component","kind"]) (G1:Fn P w K mg base "leads_home" 1 ["fare","component"] (uH K lA)) (G2:Fn P w K mg base "suits" 3 ["fare","component","kind"] (kg K suits)) (c:Ci mg "HALF_OF_RETURN" 1):
  Fn P w K mg base "fits_home" 4 ["fare","component","kind"] (kg K homeward):=by
 refine D.fn λf fd F=>F.ok IY (λvs H Q E h=>?_) (λdD A outer s H vs Q E hr h=>?_)
 ·obtain ⟨_,_,_,_,_,_,_,_,_,rfl,_⟩:=h;rfl
 ·obtain ⟨fa,ca,f,st,j,i,e,af,B,rfl,hf,hc,hk,hj,q⟩:=h;have key:homeward j af f (cut j i e)=(decide (f.way=1)&&(lA f (cut j i e)&&suits j af f (cut j i e))):=by unfold homeward lA;simp only [yx]
  refine ⟨_,(aA (aY (eI (dM gg (aT (pv 0) rfl) (kG c) (bR _)) (eI (pc G1 (hr.mono (by decide)) (ae (pv 0) (ae (pv 1) ax))) (jL (pc G2 (hr.mono (by decide)) (ae (pv 0) (ae (pv 1) (ae (pv 2) ax))))))))),?_⟩;refine ⟨_,rfl,aH hf.way ⟨rfl,_,rfl,?_⟩⟩;rw [dV];refine iB (λe1=>?_) (λe1=>ck q (by rw [key,e1];rfl));refine ⟨_,rfl,_,rfl,fa,ca,f,st,j,i,e,B,rfl,hf,hc,_,rfl,?_⟩;refine iB (λe2=>?_) (λe2=>ck q (by rw [key,e1,e2];rfl));refine ⟨_,rfl,_,rfl,_,rfl,fa,ca,f,st,j,i,e,af,B,rfl,hf,hc,hk,hj,?_⟩;exact ck q (by rw [key,e1,e2];rfl)
end
end Lf
namespace Lf
open Vbahaf (bitOf cut srcOf dstOf dayOf points pay)
def CY (K:aa):Sp:=λvs H Q _=> ∃(h:HA) (s:ag) (fl:List aq) (af:Int) (fa ca:Addr) (f:aq) (j:ai) (i e:Nat) (B:Addr->Prop),vs= [.ref h.a, .int af, .ref fa, .ref ca]/\ba K H h s fl/\(0<=af/\af<=4)/\dB K H fa f/\f∈s.fares/\eJ K H B s j i e ca/\Q (.int (pay s af f (cut j i e))) H
def t8 {s:ag} (ok:kM s) {f:aq} (h:f∈s.fares):(0<=f.key/\f.key<=999999999)/\(-1<=f.carrier/\f.carrier<=675)/\(0<=f.way/\f.way<=1)/\(0<=f.amount/\f.amount<=1000000000)/\(0<=f.group/\f.group<=7)/\(0<=f.open_/\f.open_<=3):=by
 have:=(ok.fr f h).1;unfold yr cj df at this;simp only [aU,cr] at this;obtain ⟨⟨⟨⟨⟨⟨⟨⟨⟨⟨⟨⟨⟨⟨a,b⟩,c⟩,d⟩,e⟩,g⟩,h⟩,i⟩,j⟩,k⟩,l⟩,m⟩,n⟩,o⟩,p⟩:=this;exact ⟨a,b,e,g,m,n⟩
def PB {s:ag} (ok:kM s) {af:Int} (h0:0<=af) (h4:af<=4): ∃p,s.percents[af.toNat]?=some p/\s.percents.getD af.toNat 0=p/\0<=p/\p<=200:=by
 have hl:af.toNat<s.percents.length:=by rw [ok.pl];omega
 have e:=ao hl;refine ⟨_,e,?_,ok.pr _ (uj hl)⟩;rw [bj,e];rfl
section
variable {P:adT} {w:adQ} {K:aa} {mg:Str->Option Value} {base:adO}
def tY:bh ["house","kind","fare","component","amount","divisor","rounded_up"] ["house","kind","fare","component"] (aS (top 52)):=fE
def Nw (D:Dn K mg "pays" (top 52) ["house","kind","fare","component"]) (b:Bl mg):Fn P w K mg base "pays" 1 ["house","kind","fare","component"] (CY K):=by
 refine D.fn λf fd F=>F.ok tY (λvs H Q E h=>?_) (λdD A outer s H vs Q E hr h=>?_)
 ·obtain ⟨_,_,_,_,_,_,_,_,_,_,_,rfl,_⟩:=h;rfl
 ·obtain ⟨h,s,fl,af,fa,ca,f,j,i,e,B,rfl,hh,⟨OD,hk4⟩,hf,hm,hc,q⟩:=h;obtain ⟨v,hv,XI⟩:=hc.floor;obtain ⟨p,hp,hpd,ZW,GV⟩:=PB hh.ok OD hk4;have hu:=hh.ok.un;refine ⟨_,(am (st 4 tY.nd (UY rfl b.max (aT (pv 2) rfl) (aT (pv 3) rfl)))
   (am (st 5 tY.nd (bX vb aE (aT (pv 0) rfl)))
   (am (st 6 tY.nd (bX MQ (bX gd (bX fN (bX vb (pv 4) (bi aZ (aT (pv 0) rfl) (pv 1) (λ_ _=>rfl))) (pv 5)) aE) (pv 5)))
   (aA (aY (bX vb (pv 6) (aT (pv 0) rfl))))))),?_⟩
  refine ⟨_,rfl,aH hf.amount ⟨_,rfl,aH hv ⟨_,_,rfl,?_⟩⟩⟩;refine ⟨_,rfl,aH hh.ON ⟨_,_,rfl,rfl, .inl ⟨by decide,by decide⟩,?_⟩⟩;refine ⟨_,rfl,_,rfl,aH hh.ye ⟨_,rfl,h.p,_,af,_,rfl,rfl, .of hh.percents,at_of (j:=af.toNat) (by omega) (ir hp),_,_,rfl,rfl, .inr ⟨by omega,by omega⟩,_,rfl,_,_,rfl,rfl,_,_,rfl,rfl,_,rfl,_,_,rfl,rfl,⟨?_,?_⟩,?_⟩⟩
  ·show (0:Int)<100*s.unit;omega
  ·show 100*s.unit<1073741824;omega
  ·refine ⟨_,rfl,_,rfl,aH hh.ON ⟨_,_,rfl,rfl, .inr ⟨by omega,by omega⟩,?_⟩⟩;refine as_int q ?_;unfold pay;rw [jQ hh.ok (t8 hh.ok hm).2.2.2.1.1 XI];unfold Vbahaf.part;rw [hpd]
def iT (H:Hp) (s:ag) (af:Int) (c:cG) (l:Addr) (z:List (Addr×aq)):Prop:= ∃ps:List Addr,H l=some (.lst (ps.map V.ref))/\bQ (λp x=>H p=some (.tup [.int (pay s af x.2 c), .ref x.1])) ps z
def iT.but {H H':Hp} {s:ag} {af:Int} {c:cG} {l x C dx:Addr} {fx:List (Str×V)} {z:List (Addr×aq)} (h:iT H s af c l z) (hx:H x=some (.ins C dx fx)) (b:dH x H H'):iT H' s af c l z:=by
 obtain ⟨ps,h1,h2⟩:=h;exact ⟨ps,b _ _ (cg h1 hx (λz=>nomatch z)) h1,h2.mono λ_ _ y=>b _ _ (cg y hx (λz=>nomatch z)) y⟩
def iT.mono {H H':Hp} {s:ag} {af:Int} {c:cG} {l:Addr} {z:List (Addr×aq)} (h:iT H s af c l z) (b:aB H H'):iT H' s af c l z:=by
 obtain ⟨ps,h1,h2⟩:=h;exact ⟨ps,b _ _ h1,h2.mono λ_ _ y=>b _ _ y⟩
def iT.full {K:aa} {B:Addr->Prop} {H:Hp} {s:ag} {af:Int} {c:cG} {l:Addr} {gO:List Addr} {fs:List aq} (h:iT H s af c l (gO.zip fs)) (hf:bQ (dB K H) gO fs) (hB: ¬B l):gj K H B s af c l fs:=by
 obtain ⟨ps,h1,h2,h3⟩:=h;refine ⟨hB,ps,h1,?_,λi p f hp LJ=>?_⟩
 ·rw [h2,eA,hf.1];exact tN _
 ·obtain ⟨fa,Qu,rT⟩:=hf.get LJ;exact ⟨fa,h3 i p (fa,f) hp (cf.mpr ⟨Qu,LJ⟩),rT⟩
def uC (K:aa):Sp:=λvs H Q _=> ∃(h:HA) (s:ag) (fl:List aq) (af:Int) (ca la:Addr) (j:ai) (i e:Nat) (gO:List Addr) (fs:List aq) (B:Addr->Prop),
 vs= [.ref h.a, .int af, .ref ca, .ref la]/\ba K H h s fl/\(0<=af/\af<=4)/\eJ K H B s j i e ca/\H la=some (.lst (gO.map V.ref))/\bQ (dB K H) gO fs/\(∀f∈fs,f∈s.fares)/\fs.length<=60/\
 ∀(H':Hp) (l:Addr),aB H H'->H l=none->iT H' s af (cut j i e) l (gO.zip fs)->Q (.ref l) H'
def C1:bh ["house","kind","component","fares","fare"] ["house","kind","component","fares"] (aS (top 53)):=fE
def QI (D:Dn K mg "offers_by" (top 53) ["house","kind","component","fares"]) (G:Fn P w K mg base "pays" 1 ["house","kind","fare","component"] (CY K)):Fn P w K mg base "offers_by" 2 ["house","kind","component","fares"] (uC K):=by
 refine D.fn λf fd F=>F.ok C1 (λvs H Q E h=>?_) (λdD A outer s H vs Q E hr h=>?_)
 ·obtain ⟨_,_,_,_,_,_,_,_,_,_,_,_,rfl,_⟩:=h;rfl
 ·obtain ⟨h,s,fl,af,ca,la,j,i,e,gO,fs,B,rfl,hh,hk,hc,hl,LJ,hm,xf,q⟩:=h;refine ⟨_,(aA (aY (iD rfl C1.nd (cE (pv 3)) (cX (own:= [("fare",4)]) (by kernel_rfl))
   (λ_ _ _ _ _=>(gn 4 C1.nd)) (λ_ _ _ _ _=>fw)
   (λ_ _ _ _ _=>(fM (ae (pc G (hr.mono (by decide)) (ae (pv 0) (ae (pv 1) (ae (pv 4) (ae (pv 2) ax))))) (ae (pv 4) ax))))))),?_⟩
  refine ⟨_,rfl,la,rfl,⟨_, .of hl⟩,λD hD=>fO (K:=K) (a:=la) (xs:=gO.map V.ref) (λn H'=>aB H H'/\iT H' s af (cut j i e) D ((gO.zip fs).take n)) ⟨aB.new hD,[],ak,bQ.nil⟩ (λn H' _ ⟨sm,_⟩=> .of (sm _ _ hl)) ?_ ?_⟩
  ·rintro n x H' hx ⟨sm,ps,hp,ho⟩;obtain ⟨fa,ha,rfl⟩:=b0 hx;obtain ⟨f,hf,rT⟩:=LJ.get' ha;have hz:(gO.zip fs)[n]?=some (fa,f):=cf.mpr ⟨ha,hf⟩;refine ⟨rfl,?_⟩;refine ⟨_,rfl,_,rfl,_,rfl,_,rfl,h,s,fl,af,fa,ca,f,j,i,e,B,rfl,hh.mono sm,hk,rT.mono sm,hm f (aI hf),hc.mono sm,_,rfl,(by show 2<=sizeLine;decide),λp Fi=>?_⟩;refine ⟨ps.map V.ref,bp hp (aG hp Fi),?_,aB.put (sm.trans (aB.new Fi)) hD,ps++ [p],?_,?_⟩
   ·rw [ab,ho.1,bc,eA];exact cy (aV (du _ _) (aV (du _ _) xf)) (by decide)
   ·rw [ak,dX]
   ·rw [dQ hz];exact (ho.mono λa b z=>vw z Fi (cg z hp (λz=>nomatch z))).snoc (by rw [bL (aG hp Fi).symm,ak])
  ·rintro H' ⟨sm,ho⟩;rw [ab,cp (by rw [eA];exact oW _ _)] at ho;exact q H' D sm hD ho
end
end Lf
namespace Lf
open Vbahaf (bitOf cut srcOf dstOf dayOf points pay)
def qr {κ:Type} [DecidableEq κ]: ∀{kvs:List (κ×V)} {k:κ} {v:V},(kvs.map (·.1)).Nodup->(k,v)∈kvs->cx kvs k=some v
 | [],_,_,_,h=>by cases h
 |(a,b)::kvs,k,v,nd,h=>by
  have nd:(a::kvs.map (·.1)).Nodup:=nd;obtain ⟨n1,n2⟩:=bo.mp nd;unfold cx;by_cases e:a=k
  ·subst e;rcases aD.mp h with e|h
   ·cases e;rw [nc (by simp)];rfl
   ·exact absurd (aj.mpr ⟨(a,v),h,rfl⟩) n1
  ·rw [iG (by simpa using e)];rcases aD.mp h with e'|h
   ·cases e';exact absurd rfl e
   ·exact qr n2 h
def qp {κ:Type} [DecidableEq κ] {kvs:List (κ×V)} {k:κ} {v:V} (h:cx kvs k=some v):(k,v)∈kvs:=by
 unfold cx at h;cases q:kvs.find? (λkv=>decide (kv.1=k)) with
 |none=>rw [q] at h;cases h
 |some p=>
  rw [q] at h;cases h;have h1:=gk q;have h2:=cZ q;have e:p.1=k:=by simpa using h1
  rw [<-e];exact h2
def ba.NG {K:aa} {H:Hp} {h:HA} {s:ag} {fl:List aq} (x:ba K H h s fl): ∃kvs:List (List Key×V),H h.o=some (.dT kvs)/\∀a b:Int,(cx kvs [az a,az b]).getD (.int 0)= .int (DW s a b):=by
 obtain ⟨kvs,h1,h2⟩:=x.floors;have nd:(kvs.map (·.1)).Nodup:=by
  refine (h2.map _).nodup_iff.mpr ?_;rw [bm];refine iq (f:=λk:List Key=>(k.getD 0 (az 0),k.getD 1 (az 0))) ?_;rw [bm];have:=jE (f:=λx:Int×Int=>((az x.1:Key),(az x.2:Key))) (λa b e=>by
   obtain ⟨a1,a2⟩:=a;obtain ⟨b1,b2⟩:=b;simp only [gY,kR] at e;rw [e.1,e.2]) x.ok.os
  rw [bm] at this;exact this
 refine ⟨kvs,h1,λa b=>?_⟩;cases q:cx kvs [az a,az b] with
 |some v=>
  have:=h2.mem_iff.mp (qp q);obtain ⟨⟨p,r,t⟩,hm,e⟩:=aj.mp this;simp only [gY,eU,kR,and_true] at e;obtain ⟨⟨rfl,rfl⟩,rfl⟩:=e;show V.int t=_;rw [BF x.ok hm]
 |none=>
  show V.int 0=_;rw [KP λv hm=>?_];have:=qr nd (h2.mem_iff.mpr (aj.mpr ⟨(a,b,v),hm,rfl⟩));rw [q] at this;cases this
def sh (s:ag) (nu:List Int) (L E:Nat) (g:Int):Prop:=
 0<=g/\(∀(i k:Nat) (x y:Int),i<k->(k<L∨(k=L/\i<E))->nu[i]?=some x->nu[k]?=some y->DW s x y<=g)/\(g=0∨∃(i k:Nat) (x y:Int),i<k/\nu[i]?=some x/\nu[k]?=some y/\g=DW s x y)
def sh.start (s:ag) (nu:List Int):sh s nu 1 0 0:=⟨wM _,λi k x y h1 h2=>by omega, .inl rfl⟩
def sh.row {s:ag} {nu:List Int} {L:Nat} {g:Int} (h:sh s nu L L g):sh s nu (L+1) 0 g:=
 ⟨h.1,λi k x y h1 h2 hx hy=>h.2.1 i k x y h1 (by omega) hx hy,h.2.2⟩
def sh.one {s:ag} {nu:List Int} {L E:Nat} {g x y:Int} (h:sh s nu L E g) (hE:E<L) (hx:nu[E]?=some x) (hy:nu[L]?=some y):sh s nu L (E+1) (if DW s x y>g then DW s x y else g):=by
 obtain ⟨h0,h1,h2⟩:=h;by_cases c:DW s x y>g
 ·rw [if_pos c];refine ⟨by omega,λi k x' y' l1 l2 JR JQ=>?_, .inr ⟨E,L,x,y,hE,hx,hy,rfl⟩⟩;by_cases e:k=L/\i=E
  ·obtain ⟨rfl,rfl⟩:=e;rw [hx] at JR;rw [hy] at JQ;cases JR;cases JQ;omega
  ·have:=h1 i k x' y' l1 (by omega) JR JQ;omega
 ·rw [if_neg c];refine ⟨h0,λi k x' y' l1 l2 JR JQ=>?_,h2⟩;by_cases e:k=L/\i=E
  ·obtain ⟨rfl,rfl⟩:=e;rw [hx] at JR;rw [hy] at JQ;cases JR;cases JQ;omega
  ·exact h1 i k x' y' l1 (by omega) JR JQ
def sh.done {s:ag} {nu:List Int} {L:Nat} {g:Int} (h:sh s nu L 0 g) (hl:nu.length<=L):ue s nu g:=
 ⟨h.1,λi k x y h1 hx hy=>h.2.1 i k x y h1 (by have:=(aK.mp hy).1;omega) hx hy,h.2.2⟩
def EH (K:aa):Sp:=λvs H Q _=> ∃(h:HA) (s:ag) (fl:List aq) (la:Addr) (as:List Addr) (gs:List bT),vs= [.ref h.o, .ref la]/\ba K H h s fl/\H la=some (.lst (as.map V.ref))/\bQ (jn K H) as gs/\0<gs.length/\gs.length<=8/\
 ∀(H':Hp) (v:Int),aB H H'->ue s (points gs) v->Q (.int v) H'
section
variable {P:adT} {w:adQ} {K:aa} {mg:Str->Option Value} {base:adO}
def iW:bh ["floors","segments","points","greatest","later","earlier","segment"] ["floors","segments"] (aS (top 43)):=fE
def KG (D:Dn K mg "greatest_floor" (top 43) ["floors","segments"]) (b:Bl mg):Fn P w K mg base "greatest_floor" 1 ["floors","segments"] (EH K):=by
 refine D.fn λf fd F=>F.ok iW (λvs H Q E h=>?_) (λdD A outer s H vs Q E hr h=>?_)
 ·obtain ⟨_,_,_,_,_,_,rfl,_⟩:=h;rfl
 ·obtain ⟨h,s,fl,la,as,gs,rfl,hh,hl,hs,h0,h8,q⟩:=h;have hu:=jP hr;obtain ⟨g0,J1⟩: ∃g0,gs[0]?=some g0:=⟨_,ao h0⟩
  obtain ⟨a0,RM,Rq⟩:=hs.get J1;have QO:srcOf gs=g0.src:=by
   cases gs with
   |nil=>cases J1
   |cons x r=>cases J1;rfl
  refine ⟨_,(am (st 2 iW.nd (bX pP (bK (ae (aT (bi aZ (pv 1) aE (λ_ _=>rfl)) rfl) ax)) (iD rfl iW.nd (cE (pv 1)) (cX (own:= [("segment",6)]) (by kernel_rfl))
    (λ_ _ _ _ _=>(gn 6 iW.nd)) (λ_ _ _ _ _=>fw)
    (λ_ _ _ _ _=>(eF K (pv 6))))))
   (am (st 3 iW.nd aE)
   (am (dw PassesOwn.never rfl (iL rfl b.range (ae aE (ae (i4 b.len (pv 2)) ax))) (gn 4 iW.nd)
    (aA (dw PassesOwn.never rfl (rM rfl b.range (ae (pv 4) ax)) (gn 5 iW.nd)
    (aA (st 3 iW.nd (UY rfl b.max (pv 3) (qD hu (pv 0) (fM (ae (bi aZ (pv 2) (pv 5) (λ_ _=>rfl)) (ae (bi aZ (pv 2) (pv 4) (λ_ _=>rfl)) ax))) aE ⟨rfl,rfl,rfl,rfl⟩)))))))
   (aA (aY (pv 3)))))),?_⟩
  refine ⟨_,rfl,la,_,0,_,rfl,rfl, .of hl,at_of (j:=0) rfl (bC RM),aH Rq.origin ⟨(by show 1<=sizeLine;decide),λl1 hl1=>?_⟩⟩;have s1:aB H (upd H l1 (.lst [.int g0.src])):=aB.new hl1;refine ⟨_,rfl,la,rfl,⟨_, .of (s1 _ _ hl)⟩,λD hD=>fO (K:=K) (a:=la) (xs:=as.map V.ref) (λn H'=>aB (upd H l1 (.lst [.int g0.src])) H'/\H' D=some (.lst (((gs.map λs=>s.dst).take n).map V.int))) ⟨aB.new hD,ak⟩ (λn H' _ ⟨sm,_⟩=> .of (sm _ _ (s1 _ _ hl))) ?_ ?_⟩
  ·rintro n x H' hx ⟨sm,hp⟩;obtain ⟨a,ha,rfl⟩:=b0 hx;obtain ⟨g,hg,sa⟩:=hs.get' ha;refine ⟨rfl,⟨_,rfl,aH ((sa.mono s1).mono sm).target ⟨_,hp,?_,aB.put sm hD,?_⟩⟩⟩
   ·rw [ab,bc,ab];exact cy (aV (du _ _) h8) (by decide)
   ·rw [ak,dQ (x:=g.dst) (by rw [br,hg];rfl), <-ints_snoc]
  ·rintro H1 ⟨sm,hp⟩;rw [ab,hs.1,cp (by rw [ab];exact ay _)] at hp;have Yo:H1 l1=some (.lst [.int g0.src]):=sm _ _ ak;refine ⟨l1,D,_,_,rfl,rfl,Yo,hp,?_,λlp By=>?_⟩
   ·rw [ab,ab];exact aV (Ib h8 _) (by show 1+8<=sizeLine;decide)
   have eP: [V.int g0.src] ++(gs.map λs=>s.dst).map V.int=(points gs).map V.int:=by
    unfold points;rw [QO];rfl
   rw [eP];have s2:aB H (upd H1 lp (.lst ((points gs).map V.int))):=(s1.trans sm).trans (aB.new By);have TY:(points gs).length=gs.length+1:=by unfold points;rw [aR,ab]
   obtain ⟨kvs,Fj,Yt⟩:=hh.NG;refine ⟨_,rfl,lp,_,rfl, .inl (.of ak),1,_,rfl,⟨by decide,by decide,by omega,?_⟩,?_⟩
   ·rw [ab,TY];omega
   refine ia (lo:=1) (λn σ H'=>aB (upd H1 lp (.lst ((points gs).map V.int))) H'/\∃g v4 v5,sh s (points gs) (n+1) 0 g/\σ= [some (.ref h.o),some (.ref la),some (.ref lp),some (.int g),v4,v5,none]) ⟨aB.refl _,0,none,none,sh.start _ _,rfl⟩ ?_ ?_
   ·rintro n σ H2 hn ⟨W0,g,v4,v5,up,rfl⟩;have hn:n+1<(points gs).length:=by
     rw [ab] at hn;omega
    obtain ⟨y,hy⟩: ∃y,(points gs)[n+1]?=some y:=⟨_,ao hn⟩
    refine ⟨_,rfl,_,rfl,by omega,by omega,?_⟩;refine ia (lo:=0) (n:=(1+(n:Int)).toNat) (λm σ H'=>aB (upd H1 lp (.lst ((points gs).map V.int))) H'/\∃g v5,sh s (points gs) (n+1) m g/\σ= [some (.ref h.o),some (.ref la),some (.ref lp),some (.int g),some (.int (1+n)),v5,none]) ⟨W0,g,v5,up,rfl⟩ ?_ ?_
    ·rintro m σ H3 hm ⟨Sy,g,v5,up,rfl⟩;have hm:m<n+1:=by omega
     obtain ⟨x,hx⟩: ∃x,(points gs)[m]?=some x:=⟨_,ao (by omega)⟩
     have Ug:H3 lp=some (.lst ((points gs).map V.int)):=Sy _ _ ak;have VR:H3 h.o=some (.dT kvs):=Sy _ _ (s2 _ _ Fj);refine ⟨_,rfl,_,rfl,h.o,rfl, .inr ⟨kvs, .inl VR⟩,_,rfl,_,rfl,lp,_,_,_,rfl,rfl, .of Ug,at_of (j:=m) (by omega) (ir hx),_,rfl,_,rfl,lp,_,_,_,rfl,rfl, .of Ug,at_of (j:=n+1) (by omega) (ir hy),(by show 2<=sizeLine;decide),λp hp=>?_⟩;have s4:aB H3 (upd H3 p (.tup [.int x, .int y])):=aB.new hp;refine ⟨_,j7.t (k:= [az x,az y]) (s4 _ _ VR) ak,?_⟩;rw [Yt x y];refine ⟨_,_,rfl,Sy.trans s4,_,_,up.one hm hx hy,rfl⟩
    ·rintro σ H3 ⟨Sy,g,v5,up,rfl⟩;have e:(1+(n:Int)).toNat=n+1:=by omega
     rw [e] at up;exact ⟨Sy,g,_,_,up.row,rfl⟩
   ·rintro σ H2 ⟨W0,g,v4,v5,up,rfl⟩;refine ⟨_,rfl,?_⟩;refine q H2 g (s2.trans W0) (up.done ?_);rw [ab];omega
end
end Lf
namespace Lf
open Vbahaf (cut srcOf dstOf dayOf points)
def Hw {as:List Addr} {i e:Nat} (h1:i<=e) (h2:e<=as.length) {a b:Int} (ha:a=(i:Int)) (hb:b=(e:Int)):rX (as.map V.ref) (some a) (some b)=((as.drop i).take (e-i)).map V.ref:=by
 subst ha hb;unfold rX;have e1:HT.yT (as.map V.ref).length 0 (some (i:Int))=i:=by
  show (if (i:Int)<0 then ((i:Int)+((as.map V.ref).length:Int)).toNat else min (i:Int).toNat (as.map V.ref).length)=i;rw [if_neg (by omega),ab];omega
 have e2:HT.yT (as.map V.ref).length (as.map V.ref).length (some (e:Int))=e:=by
  show (if (e:Int)<0 then ((e:Int)+((as.map V.ref).length:Int)).toNat else min (e:Int).toNat (as.map V.ref).length)=e;rw [if_neg (by omega),ab];omega
 rw [e1,e2,Rk,Rl]
def oR {as:List Int} {i e:Nat} (h1:i<=e) (h2:e<=as.length) {a b:Int} (ha:a=(i:Int)) (hb:b=(e:Int)):rX (as.map V.int) (some a) (some b)=((as.drop i).take (e-i)).map V.int:=by
 subst ha hb;unfold rX;have e1:HT.yT (as.map V.int).length 0 (some (i:Int))=i:=by
  show (if (i:Int)<0 then ((i:Int)+((as.map V.int).length:Int)).toNat else min (i:Int).toNat (as.map V.int).length)=i;rw [if_neg (by omega),ab];omega
 have e2:HT.yT (as.map V.int).length (as.map V.int).length (some (e:Int))=e:=by
  show (if (e:Int)<0 then ((e:Int)+((as.map V.int).length:Int)).toNat else min (e:Int).toNat (as.map V.int).length)=e;rw [if_neg (by omega),ab];omega
 rw [e1,e2,Rk,Rl]
def NY {xs:List V} {v:V} (h:xs[xs.length-1]?=some v):FD xs (-1)=some v:=by
 have hl:=(aK.mp h).1;unfold FD;have e:HW xs.length (-1)=some (xs.length-1):=by
  unfold HW;rw [if_neg (by decide),if_pos (by omega)]
  congr 1
  omega
 rw [e];exact h
def Pi {gs:List bT} {g:bT} (h:gs[0]?=some g):srcOf gs=g.src/\dayOf gs=g.day:=by
 cases gs with
 |nil=>cases h
 |cons x r=>cases h;exact ⟨rfl,rfl⟩
def QV {gs:List bT} {g:bT} (h:gs[gs.length-1]?=some g):dstOf gs=g.dst:=by
 unfold dstOf;rw [List.getLast?_eq_getElem?,h]
def NN {j:ai} {i e:Nat} (h1:i<e) (h2:e<=j.segs.length):(cut j i e).length=e-i:=by
 unfold cut;rw [bc,mT];omega
def yL (K:aa) (C:Addr):Sp:=λvs H Q _=> ∃(x dx:Addr) (H0:Hp) (h:HA) (s:ag) (fl:List aq) (j:ai) (i e:Nat) (a b:Int),vs= [.ref x, .ref h.a, .int a, .int b]/\a=(i:Int)/\b=(e:Int)-1/\H x=some (.ins C dx [])/\aB H0 H/\H0 x=none/\
 ba K H0 h s fl/\s.journey=some j/\i<e/\e<=j.segs.length/\∀H':Hp,aB H0 H'->eJ K H' (λb=> ∃o,H b=some o) s j i e x->Q .fY H'
section
variable {P:adT} {w:adQ} {K:aa} {mg:Str->Option Value} {base:adO} {t:CA}
def My:bh ["self","house","first","last"] ["self","house","first","last"] (aS (inClass (top 41) 0)):=fE
def NT (k:Ks K mg t) (G:Fn P w K mg base "greatest_floor" 1 ["floors","segments"] (EH K)):Cl P w K mg base "Component" t.cN 2 ["self","house","first","last"] (yL K t.cN):=by
 refine k.cN.cl λf fd F cl=>F.ok My (λvs H Q E h=>?_) (λdD A outer s H vs Q E hr h=>?_)
 ·obtain ⟨_,_,_,_,_,_,_,_,_,_,_,rfl,_⟩:=h;rfl
 ·obtain ⟨x,dx,H0,h,s,fl,j,i,e,a,b,rfl,ea,eb,hx,sm,hn,hh,hj,Z4,he,q⟩:=h;obtain ⟨ja,fj,GQ⟩:=hh.dS hj;obtain ⟨Bq,l,as,RG,Fp,hl,hs,_⟩:=GQ;have hlen:as.length=j.segs.length:=hs.1;have h8:=(hh.ok.jo j hj).ge;refine ⟨_,(am (bW (pv 0) (pv 2) rfl)
   (am (bW (pv 0) (pv 3) rfl)
   (am (bW (pv 0) (qC tV (aT (aT (pv 1) rfl) rfl) (iR (pv 2)) (iR (bX fN (pv 3) aE))) rfl)
   (am (bW (pv 0) (aT (bi aZ (aT (pv 0) rfl) aE (λ_ _=>rfl)) rfl) rfl)
   (am (bW (pv 0) (aT (bi aZ (aT (pv 0) rfl) (u4 pC aE) (λ_ _=>rfl)) rfl) rfl)
   (am (bW (pv 0) (aT (bi aZ (aT (pv 0) rfl) aE (λ_ _=>rfl)) rfl) rfl)
   (am (bW (pv 0) (bX gd (aT (pv 0) rfl) (aT (aT (pv 1) rfl) rfl)) rfl)
   (aA (bW (pv 0) (pc G (hr.mono (by decide)) (ae (aT (pv 1) rfl) (ae (aT (pv 0) rfl) ax))) rfl))))))))),?_⟩
  refine ⟨_,rfl,_,rfl,sN (DK hx) cl k.mO λH1 h1 b1=>?_⟩;have s1:=dH.same sm hn b1;refine ⟨_,rfl,_,rfl,sN h1 cl k.ot λH2 h2 b2=>?_⟩;have s2:=dH.same s1 hn b2;refine ⟨_,rfl,aH (fj.mono s2) (aH (Fp.mono s2) ⟨_,rfl,a,rfl,_,rfl,_,_,rfl,rfl,b+1,rfl,l,_,rfl, .of (s2 _ _ hl),λp hp=>?_⟩)⟩;rw [Hw (i:=i) (e:=e) (by omega) (by omega) ea (by omega)];refine ⟨_,rfl,sN ⟨bp h2.1 (aG h2.1 hp),h2.2⟩ cl k.dI λH3 h3 b3=>?_⟩;have Co:p≠x:=(aG h2.1 hp).symm;have s3:=dH.same (s2.trans (aB.new hp)) hn b3;have p3:H3 p=some (.lst (((as.drop i).take (e-i)).map V.ref)):=b3 _ _ Co ak;have J6:bQ (jn K H0) ((as.drop i).take (e-i)) (cut j i e):=hs.cut i (e-i);have xc:=NN Z4 he;have hal:((as.drop i).take (e-i)).length=e-i:=by rw [J6.1,xc]
  obtain ⟨g0,J1⟩: ∃g0,(cut j i e)[0]?=some g0:=⟨_,ao (by omega)⟩
  obtain ⟨a0,RM,Rq⟩:=J6.get J1;obtain ⟨gl,Z6⟩: ∃gl,(cut j i e)[(cut j i e).length-1]?=some gl:=⟨_,ao (by omega)⟩
  obtain ⟨al,YI,sal⟩:=J6.get Z6;obtain ⟨QO,UV⟩:=Pi J1;have YX:=QV Z6;refine ⟨_,rfl,aH ⟨_,_,_,h3.1,cl,k.dI,rfl⟩ ⟨p,_,0,_,rfl,rfl, .of p3,at_of (j:=0) rfl (bC RM),aH (Rq.origin.mono s3) ⟨_,rfl,sN h3 cl k.lJ λH4 h4 b4=>?_⟩⟩⟩;have s4:=dH.same s3 hn b4;have p4:=b4 _ _ Co p3;refine ⟨_,rfl,aH ⟨_,_,_,h4.1,cl,k.dI,rfl⟩ ⟨_,rfl,p,_, -1,_,rfl,rfl, .of p4,NY ?_,aH (sal.target.mono s4) ⟨_,rfl,sN h4 cl k.lI λH5 h5 b5=>?_⟩⟩⟩
  ·have el:e-i-1=(cut j i e).length-1:=by omega
   rw [ab,hal,el];exact bC YI
  have s5:=dH.same s4 hn b5;have p5:=b5 _ _ Co p4;refine ⟨_,rfl,aH ⟨_,_,_,h5.1,cl,k.dI,rfl⟩ ⟨p,_,0,_,rfl,rfl, .of p5,at_of (j:=0) rfl (bC RM),aH (Rq.day.mono s5) ⟨_,rfl,sN h5 cl k.kP λH6 h6 b6=>?_⟩⟩⟩;have s6:=dH.same s5 hn b6;have p6:=b6 _ _ Co p5;refine ⟨_,rfl,aH ⟨_,_,_,h6.1,cl,k.kP,rfl⟩ ⟨_,rfl,aH (fj.mono s6) (aH (Bq.mono s6) ⟨_,_,rfl,rfl,_,rfl,sN h6 cl k.jp λH7 h7 b7=>?_⟩)⟩⟩;have s7:=dH.same s6 hn b7;have p7:=b7 _ _ Co p6;refine ⟨_,rfl,aH (hh.mono s7).Fq ⟨_,rfl,aH ⟨_,_,_,h7.1,cl,k.dI,rfl⟩ ⟨h,s,fl,p,_,cut j i e,rfl,hh.mono s7,p7,J6.mono λ_ _ z=>z.mono s7,by omega,by omega,λH8 v WZ XI=>?_⟩⟩⟩;refine ⟨_,rfl,sN ⟨WZ _ _ h7.1,h7.2⟩ cl k.mN λH9 h9 b9=>?_⟩;have s9:=dH.same (s7.trans WZ) hn b9;have p9:=b9 _ _ Co (WZ _ _ p7);have nd:(["first","last","segments","origin","target","day","days_left","floor"]:List Str).Nodup:=by decide+kernel
  have h9:H9 x=some (.ins t.cN dx ((["first","last","segments","origin","target","day","days_left","floor"]:List Str).zip [.int a, .int b, .ref p, .int g0.src, .int gl.dst, .int g0.day, .int (g0.day-j.now), .int v])):=h9.1;have hnb: ¬∃o,H p=some o:=λ⟨o,z⟩=>by
   rw [b2 _ _ Co (b1 _ _ Co z)] at hp;cases hp
  refine q H9 s9 ⟨⟨Z4,he⟩,?_,?_,⟨p,_,hnb,cM 2 nd h9 cl k.dI,p9,J6.mono λ_ _ z=>z.mono s9⟩,?_,?_,?_,?_,v,cM 7 nd h9 cl k.mN,XI⟩
  ·rw [<-ea];exact cM 0 nd h9 cl k.mO
  ·rw [<-eb];exact cM 1 nd h9 cl k.ot
  ·rw [QO];exact cM 3 nd h9 cl k.lJ
  ·rw [YX];exact cM 4 nd h9 cl k.lI
  ·rw [UV];exact cM 5 nd h9 cl k.kP
  ·rw [UV];exact cM 6 nd h9 cl k.jp
end
end Lf
namespace Lf
open Vbahaf (cut single outward homeward)
def Lh {α β γ:Type} {R:α->β->Prop} {g:γ->α} {h:γ->β} {z:List γ} (k: ∀p∈z,R (g p) (h p)):bQ R (z.map g) (z.map h):=by
 refine ⟨by rw [ab,ab],λi a b ha hb=>?_⟩;rw [br] at ha hb;cases e:z[i]? with
 |none=>rw [e] at ha;cases ha
 |some p=>
  rw [e] at ha hb;cases ha;cases hb;exact k p (aI e)
def JF {α β:Type} {R:α->β->Prop} {as:List α} {bs:List β} (h:bQ R as bs) {p:α×β} (hp:p∈as.zip bs):R p.1 p.2:=by
 obtain ⟨i,hi⟩:=gN hp;rw [cf] at hi;exact h.2 i _ _ hi.1 hi.2
def zv (ok:aq->Bool) (z:List (aq×Addr)):List Addr:=(z.filter λx=>ok x.1).map (·.2)
def yb (ok:aq->Bool) (z:List (aq×Addr)) (f:aq) (a:Addr):zv ok (z++ [(f,a)])=if ok f=true then zv ok z++ [a] else zv ok z:=by
 unfold zv;rw [dq,aO,bw];cases ok f<;>simp
def oQ {R:aq->Addr->Prop} {fl:List aq} {gO:List Addr} (h:bQ R fl gO) (ok:aq->Bool):bQ (λa f=>R f a) (zv ok (fl.zip gO)) (fl.filter ok):=by
 have e:fl.filter ok=((fl.zip gO).filter λx=>ok x.1).map (·.1):=by
  have e1:(fl.zip gO).map (·.1)=fl:=uh (by rw [h.1];exact ay _)
  conv=>lhs;rw [<-e1]
  rw [ik];rfl
 rw [e];unfold zv;exact Lh λp hp=>JF h (au.mp hp).1
def JN {fl:List aq} {gO:List Addr} (h:fl.length=gO.length):(GO fl gO).map (·.2)=gO.map V.ref:=by
 unfold GO;rw [bm];have e:(fl.zip gO).map (·.2)=gO:=List.map_snd_zip (by rw [h];exact ay _)
 conv=>rhs;rw [<-e]
 rw [bm];rfl
def rY {K:aa} {ok:ai->Int->aq->cG->Bool} {H:Hp} {Q:VK} {x ha ca lf:Addr} {af:Int} {fl:List aq} {gO:List Addr} {s:ag} {j:ai} {i e:Nat} {B:Addr->Prop}
  (hl:H lf=some (.lst (gO.map V.ref))) (hf:bQ (λf a=>dB K H a f) fl gO) (hc:eJ K H B s j i e ca) (hk:0<=af) (hj:Wm j) (xf:fl.length<=60)
  (k: ∀(H':Hp) (D:Addr),aB H H'->H' D=some (.lst ((zv (λf=>ok j af f (cut j i e)) (fl.zip gO)).map V.ref))->Q (.ref D) H'):
  Sf (Oy K (yF 4)) (vJ 5) (tB (Ep (kg K ok) [] E0 (iC (yF 5) (iC (yF 3) (iC (yF 2) oZ))))) (yF 5) [5] [some (.ref x),some (.ref ha),some (.int af),some (.ref ca),some (.ref lf),none] H Q:=by
 refine ⟨_,rfl,lf,rfl,⟨_, .of hl⟩,λD hD=>fO (K:=K) (a:=lf) (xs:=gO.map V.ref) (λn H'=>aB H H'/\H' D=some (.lst ((zv (λf=>ok j af f (cut j i e)) ((fl.zip gO).take n)).map V.ref))) ⟨aB.new hD,ak⟩ (λn H' _ ⟨sm,_⟩=> .of (sm _ _ hl)) ?_ ?_⟩
 ·rintro n y H' hy ⟨sm,hd⟩;obtain ⟨fa,Qu,rfl⟩:=b0 hy;obtain ⟨f,hfl,rT⟩:=hf.get Qu;have hz:(fl.zip gO)[n]?=some (f,fa):=cf.mpr ⟨hfl,Qu⟩;refine ⟨rfl,⟨_,rfl,_,rfl,_,rfl,fa,ca,f,s,j,i,e,af,B,rfl,rT.mono sm,hc.mono sm,hk,hj,_,rfl,?_⟩⟩;refine iB (λh1=>?_) (λh1=>?_)
  ·refine ⟨_,rfl,_,hd,?_,aB.put sm hD,?_⟩
   ·rw [ab];unfold zv;rw [ab];refine cy (aN _ _) ?_;rw [bc,eA];exact cy (aV (du _ _) (aV (oW _ _) xf)) (by decide)
   ·rw [ak,dQ hz,yb,if_pos h1,dX]
  ·refine ⟨sm,?_⟩;rw [dQ hz,yb,if_neg (by rw [h1];exact aJ)];exact hd
 ·rintro H' ⟨sm,hd⟩;rw [ab, <-hf.1,cp (by rw [eA];exact oW _ _)] at hd;exact k H' D sm hd
def uD (K:aa) (C:Addr):Sp:=λvs H Q _=> ∃(x dx ca:Addr) (H0:Hp) (h:HA) (s:ag) (fl:List aq) (j:ai) (i e:Nat) (af:Int) (B:Addr->Prop),vs= [.ref x, .ref h.a, .int af, .ref ca]/\H x=some (.ins C dx [])/\aB H0 H/\H0 x=none/\
 ba K H0 h s fl/\eJ K H0 B s j i e ca/\s.journey=some j/\(0<=af/\af<=4)/\∀H':Hp,aB H0 H'->dA K H' (λb=>B b/\∃o,H b=some o) s fl j af i e x->Q .fY H'
section
variable {P:adT} {w:adQ} {K:aa} {mg:Str->Option Value} {base:adO} {t:CA}
def nq:bh ["self","house","kind","component","fares","f"] ["self","house","kind","component"] (aS (inClass (top 42) 0)):=fE
def Q3 (k:Ks K mg t) (b:Bl mg) (G1:Fn P w K mg base "offers_by" 2 ["house","kind","component","fares"] (uC K)) (G2:Fn P w K mg base "fits_singly" 4 ["fare","component","kind"] (kg K single)) (G3:Fn P w K mg base "fits_out" 4 ["fare","component","kind"] (kg K outward))
  (G4:Fn P w K mg base "fits_home" 4 ["fare","component","kind"] (kg K homeward)):Cl P w K mg base "Offers" t.iw 5 ["self","house","kind","component"] (uD K t.iw):=by
 refine k.iw.cl λf fd F cl=>F.ok nq (λvs H Q E h=>?_) (λdD A outer s H vs Q E hr h=>?_)
 ·obtain ⟨_,_,_,_,_,_,_,_,_,_,_,_,rfl,_⟩:=h;rfl
 ·obtain ⟨x,dx,ca,H0,h,s,fl,j,i,e,af,B,rfl,hx,sm,hn,hh,hc,hj,hk,q⟩:=h;have hJ:=hh.ok.jo j hj;obtain ⟨gO,Qv,HY,_⟩:=hh.fares;have xf:fl.length<=60:=by rw [hh.perm.length_eq];exact hh.ok.fl
  refine ⟨_,(am (st 4 nq.nd (xO (r8 rfl) rfl b.list uf (ae (Gw (aT (pv 1) rfl)) ax)))
   (am (bW (pv 0) (pv 3) rfl)
   (am (bW (pv 0) (pc G1 (hr.mono (by decide)) (ae (pv 1) (ae (pv 2) (ae (pv 3) (ae (iD rfl nq.nd (cE (pv 4)) (cX (own:= [("f",5)]) (by kernel_rfl))
    (λ_ _ _ _ _=>(gn 5 nq.nd)) (λ_ _ _ _ _=>(oG (eV (pc G2 (hr.mono (by decide)) (ae (pv 5) (ae (pv 3) (ae (pv 2) ax)))))))
    (λ_ _ _ _ _=>(pv 5))) ax))))) rfl)
   (am (bW (pv 0) (pc G1 (hr.mono (by decide)) (ae (pv 1) (ae (pv 2) (ae (pv 3) (ae (iD rfl nq.nd (cE (pv 4)) (cX (own:= [("f",5)]) (by kernel_rfl))
    (λ_ _ _ _ _=>(gn 5 nq.nd)) (λ_ _ _ _ _=>(oG (eV (pc G3 (hr.mono (by decide)) (ae (pv 5) (ae (pv 3) (ae (pv 2) ax)))))))
    (λ_ _ _ _ _=>(pv 5))) ax))))) rfl)
   (aA (bW (pv 0) (pc G1 (hr.mono (by decide)) (ae (pv 1) (ae (pv 2) (ae (pv 3) (ae (iD rfl nq.nd (cE (pv 4)) (cX (own:= [("f",5)]) (by kernel_rfl))
    (λ_ _ _ _ _=>(gn 5 nq.nd)) (λ_ _ _ _ _=>(oG (eV (pc G4 (hr.mono (by decide)) (ae (pv 5) (ae (pv 3) (ae (pv 2) ax)))))))
    (λ_ _ _ _ _=>(pv 5))) ax))))) rfl)))))),?_⟩
  refine ⟨_,rfl,aH (hh.hZ.mono sm) ⟨h.f,_,rfl, .inl (sm _ _ Qv),λv hv=>?_⟩⟩;refine ⟨v,h.f,_,rfl,ak, .inl (bp (sm _ _ Qv) (aG (sm _ _ Qv) hv)),λlf GW=>?_⟩;rw [JN HY.1];have sa:aB H0 (upd (upd H v (.ext (nW v h.f))) lf (.lst (gO.map V.ref))):=(sm.trans (aB.new hv)).trans (aB.new GW);have XS:=bp (o':= .lst (gO.map V.ref)) (bp (o':= .ext (nW v h.f)) hx (aG hx hv)) (aG (bp (o':= .ext (nW v h.f)) hx (aG hx hv)) GW);have Xy:lf≠x:=(aG (bp (o':= .ext (nW v h.f)) hx (aG hx hv)) GW).symm;refine ⟨_,rfl,_,rfl,sN (DK XS) cl k.lF λH1 h1 b1=>?_⟩;have s1:=dH.same sa hn b1;have l1:H1 lf=some (.lst (gO.map V.ref)):=b1 _ _ Xy ak;have mem: ∀(ok:aq->Bool),(∀f∈fl.filter ok,f∈s.fares)/\(fl.filter ok).length<=60:=λok=>⟨λf hf=>hh.perm.mem_iff.mp (au.mp hf).1,aV (aN _ _) xf⟩
  refine ⟨_,rfl,_,rfl,_,rfl,rY (s:=s) (j:=j) (i:=i) (e:=e) l1 (HY.mono λ_ _ z=>z.mono s1) (hc.mono s1) hk.1 hJ xf λH2 D2 io d2=>?_⟩;refine ⟨h,s,fl,af,ca,D2,j,i,e,_,_,B,rfl,hh.mono (s1.trans io),hk,hc.mono (s1.trans io),d2,oQ (HY.mono λ_ _ z=>z.mono (s1.trans io)) _,(mem _).1,(mem _).2,λH3 L3 Lw n3 o3=>?_⟩;have x3:=(io.trans Lw) _ _ h1.1;refine ⟨_,rfl,sN ⟨x3,h1.2⟩ cl k.n8 λH4 h4 b4=>?_⟩;have s4:=dH.same ((s1.trans io).trans Lw) hn b4;have l4:H4 lf=some (.lst (gO.map V.ref)):=b4 _ _ Xy ((io.trans Lw) _ _ l1);have o4:=o3.but x3 b4;refine ⟨_,rfl,_,rfl,_,rfl,rY (s:=s) (j:=j) (i:=i) (e:=e) l4 (HY.mono λ_ _ z=>z.mono s4) (hc.mono s4) hk.1 hJ xf λH5 D5 MA d5=>?_⟩;refine ⟨h,s,fl,af,ca,D5,j,i,e,_,_,B,rfl,hh.mono (s4.trans MA),hk,hc.mono (s4.trans MA),d5,oQ (HY.mono λ_ _ z=>z.mono (s4.trans MA)) _,(mem _).1,(mem _).2,λH6 L6 SE n6 o6=>?_⟩;have x6:=(MA.trans SE) _ _ h4.1;refine ⟨_,rfl,sN ⟨x6,h4.2⟩ cl k.sL λH7 h7 b7=>?_⟩;have s7:=dH.same ((s4.trans MA).trans SE) hn b7;have l7:H7 lf=some (.lst (gO.map V.ref)):=b7 _ _ Xy ((MA.trans SE) _ _ l4);have o7:=o6.but x6 b7;have o47:=(o4.mono (MA.trans SE)).but x6 b7;refine ⟨_,rfl,_,rfl,_,rfl,rY (s:=s) (j:=j) (i:=i) (e:=e) l7 (HY.mono λ_ _ z=>z.mono s7) (hc.mono s7) hk.1 hJ xf λH8 D8 Oi d8=>?_⟩;refine ⟨h,s,fl,af,ca,D8,j,i,e,_,_,B,rfl,hh.mono (s7.trans Oi),hk,hc.mono (s7.trans Oi),d8,oQ (HY.mono λ_ _ z=>z.mono (s7.trans Oi)) _,(mem _).1,(mem _).2,λH9 L9 VA n9 o9=>?_⟩;have x9:=(Oi.trans VA) _ _ h7.1;refine ⟨_,rfl,sN ⟨x9,h7.2⟩ cl k.qQ λHA hA bA=>?_⟩;have sA:=dH.same ((s7.trans Oi).trans VA) hn bA;have fA:bQ (λf a=>dB K HA a f) fl gO:=HY.mono λ_ _ z=>z.mono sA;have nd:(["component","singles","outs","homes"]:List Str).Nodup:=by decide+kernel
  have hA:HA x=some (.ins t.iw dx ((["component","singles","outs","homes"]:List Str).zip [.ref ca, .ref L3, .ref L6, .ref L9])):=hA.1;have fr: ∀{L:Addr} {H':Hp},(∀o,H L=some o->∃o',H' L=some o')->H' L=none->¬(B L/\∃o,H L=some o):=λk z ⟨_,o,y⟩=>by
   obtain ⟨o',y'⟩:=k o y;rw [y'] at z;cases z
  have up1: ∀{L:Addr} {o:HO},H L=some o->∃o',H1 L=some o':=λ{L o} y=>by
   by_cases e:L=x
   ·rw [e];exact ⟨_,h1.1⟩
   ·exact ⟨_,b1 _ _ e (aB.new GW _ _ (aB.new hv _ _ y))⟩
  have Zm: ∀{L:Addr} {o:HO},H L=some o->∃o',H4 L=some o':=λ{L o} y=>by
   obtain ⟨o',y'⟩:=up1 y;by_cases e:L=x
   ·rw [e];exact ⟨_,h4.1⟩
   ·exact ⟨_,b4 _ _ e ((io.trans Lw) _ _ y')⟩
  have up7: ∀{L:Addr} {o:HO},H L=some o->∃o',H7 L=some o':=λ{L o} y=>by
   obtain ⟨o',y'⟩:=Zm y;by_cases e:L=x
   ·rw [e];exact ⟨_,h7.1⟩
   ·exact ⟨_,b7 _ _ e ((MA.trans SE) _ _ y')⟩
  refine q HA sA ⟨⟨ca,cM 0 nd hA cl k.lF,(hc.mono sA).weak λb z=>z.1⟩,⟨L3,cM 1 nd hA cl k.n8,((o47.mono (Oi.trans VA)).but x9 bA).full (oQ fA _) (fr (λo y=>(up1 y).imp λ_ z=>io _ _ z) n3)⟩,
   ⟨L6,cM 2 nd hA cl k.sL,((o7.mono (Oi.trans VA)).but x9 bA).full (oQ fA _) (fr (λo y=>(Zm y).imp λ_ z=>MA _ _ z) n6)⟩,⟨L9,cM 3 nd hA cl k.qQ,(o9.but x9 bA).full (oQ fA _) (fr (λo y=>(up7 y).imp λ_ z=>Oi _ _ z) n9)⟩⟩
end
end Lf
namespace Lf
open Vbahaf (cut single outward homeward)
def dY {H:Hp} {x dx C:Addr} (nx:H x=none) (nd:H dx=none):aB H (upd (upd H dx (.own x)) x (.ins C dx [])):=λb o e=>by
 rw [bL (aG e nx),bL (aG e nd)];exact e
def jI (n a:Nat) (m:Nat):List (Nat×Nat):=(bb m).map λk=>(a,a+k+1)
def oA (n m:Nat):List (Nat×Nat):=(bb m).flatMap λa=>jI n a (n-a)
def Ak (n m:Nat):oA n (m+1)=oA n m++jI n m (n-m):=by unfold oA;rw [eh,cc];simp
def Al (n a m:Nat):jI n a (m+1)=jI n a m++ [(a,a+m+1)]:=by unfold jI;rw [eh,aO];rfl
def yH {n:Nat} (h8:n<=8): ∀{m:Nat},m<=n->(oA n m).length<=8*m
 |0,_=>ay _
 |m+1,h=>by
  rw [Ak,aL];have:=yH h8 (m:=m) (by omega);unfold jI;rw [ab,bZ];omega
def oP {n a e:Nat}:(a,e)∈oA n n↔a<e/\e<=n:=by
 unfold oA jI;constructor
 ·intro h;obtain ⟨x,hx,h⟩:=aW.mp h;obtain ⟨k,hk,e⟩:=aj.mp h;have:=bE.mp hx;have:=bE.mp hk;cases e;omega
 ·intro ⟨h1,h2⟩;exact aW.mpr ⟨a,bE.mpr (by omega),aj.mpr ⟨e-a-1,bE.mpr (by omega),by congr 1;omega⟩⟩
def yn (K:aa) (H:Hp) (B:Addr->Prop) (s:ag) (fl:List aq) (j:ai) (af:Int) (l:Addr):Prop:= ∃os:List Addr,H l=some (.lst (os.map V.ref))/\bQ (λo c=>dA K H B s fl j af c.1 c.2 o) os (oA j.segs.length j.segs.length)
def lY (K:aa):Sp:=λvs H Q _=> ∃(h:HA) (s:ag) (fl:List aq) (j:ai) (af:Int),vs= [.ref h.a, .int af]/\ba K H h s fl/\s.journey=some j/\(0<=af/\af<=4)/\
 ∀(H':Hp) (l:Addr),aB H H'->H l=none->yn K H' (λb=>b=l) s fl j af l->Q (.ref l) H'
section
variable {P:adT} {w:adQ} {K:aa} {mg:Str->Option Value} {base:adO} {t:CA}
def AD:bh ["house","kind","many","found","first","last"] ["house","kind"] (aS (top 54)):=fE
def UN (D:Dn K mg "find_offers" (top 54) ["house","kind"]) (b:Bl mg) (G1:Cl P w K mg base "Component" t.cN 2 ["self","house","first","last"] (yL K t.cN)) (G2:Cl P w K mg base "Offers" t.iw 5 ["self","house","kind","component"] (uD K t.iw)):
  Fn P w K mg base "find_offers" 7 ["house","kind"] (lY K):=by
 refine D.fn λf fd F=>F.ok AD (λvs H Q E h=>?_) (λdD A outer s H vs Q E hr h=>?_)
 ·obtain ⟨_,_,_,_,_,rfl,_⟩:=h;rfl
 ·obtain ⟨h,s,fl,j,af,rfl,hh,hj,hk,q⟩:=h;obtain ⟨ja,fj,GQ⟩:=hh.dS hj;obtain ⟨Bq,l,as,RG,Fp,hl,hs,_⟩:=GQ;have h8:=(hh.ok.jo j hj).ge;have hlen:as.length=j.segs.length:=hs.1;refine ⟨_,(am (st 2 AD.nd (i4 b.len (aT (aT (pv 0) rfl) rfl)))
   (am (st 3 AD.nd (bK ax))
   (am (dw PassesOwn.never rfl (rM rfl b.range (ae (pv 2) ax)) (gn 4 AD.nd)
    (aA (dw PassesOwn.never rfl (iL rfl b.range (ae (pv 4) (ae (pv 2) ax))) (gn 5 AD.nd)
    (aA (eO (BJ (pv 3) (Ly G2 (hr.mono (by decide)) (ae (pv 0) (ae (pv 1) (ae (Ly G1 (hr.mono (by decide)) (ae (pv 0) (ae (pv 4) (ae (pv 5) ax)))) ax))))))))))
   (aA (aY (pv 3)))))),?_⟩
  refine ⟨_,rfl,aH fj (aH Fp ⟨l,_,rfl, .inl (.of hl),?_⟩)⟩;rw [ab,hlen];refine ⟨bv _,λlf GW=>?_⟩;refine ⟨_,rfl,_,rfl,by omega,by omega,ia (n:=((j.segs.length:Nat):Int).toNat) (λa σ H'=>aB H H'/\(∃v4 v5,σ= [some (.ref h.a),some (.int af),some (.int (j.segs.length:Int)),some (.ref lf),v4,v5])/\∃os:List Addr,H' lf=some (.lst (os.map V.ref))/\bQ (λo c=>dA K H' (λb=>b=lf) s fl j af c.1 c.2 o) os (oA j.segs.length a))
   ⟨aB.new GW,⟨none,none,rfl⟩,[],ak,bQ.nil⟩ ?_ ?_⟩
  ·rintro a σ H1 ha ⟨s1,⟨v4,v5,rfl⟩,os,ho,Bv⟩;have ha:a<j.segs.length:=by omega
   refine ⟨_,rfl,_,rfl,_,_,rfl,⟨by omega,by omega,by omega,by omega⟩,?_⟩;refine ia (lo:=0+(a:Int)) (λm σ H'=>aB H H'/\(∃v5,σ= [some (.ref h.a),some (.int af),some (.int (j.segs.length:Int)),some (.ref lf),some (.int (0+(a:Int))),v5])/\∃os:List Addr,H' lf=some (.lst (os.map V.ref))/\bQ (λo c=>dA K H' (λb=>b=lf) s fl j af c.1 c.2 o) os (oA j.segs.length a++jI j.segs.length a m))
    ⟨s1,⟨v5,rfl⟩,os,ho,by simpa [jI] using Bv⟩ ?_ ?_
   ·rintro m σ H2 hm ⟨s2,⟨v5,rfl⟩,os,ho,Bv⟩;have hm:a+m+1<=j.segs.length:=by omega
    refine ⟨_,rfl, .inl ⟨rfl,_, .of ho⟩,_,rfl,_,rfl,_,rfl,_,rfl,_,rfl,λx dx nx tj PP=>?_⟩;refine ⟨x,dx,H2,h,s,fl,j,a,a+m+1,_,_,rfl,by omega,by omega,ak,dY nx tj,nx,hh.mono s2,hj,by omega,hm,λH3 s3 c3=>⟨rfl,λy dy ny VH ney=>?_⟩⟩;refine ⟨y,dy,x,H3,h,s,fl,j,a,a+m+1,af,_,rfl,ak,dY ny VH,ny,hh.mono (s2.trans s3),c3,hj,hk,λH4 s4 o4=>⟨rfl,?_⟩⟩;have W2:=s3.trans s4;have l4:=W2 _ _ ho;refine ⟨lf,_,_,rfl,rfl,l4,?_,aB.put (s2.trans W2) GW,⟨_,rfl⟩,os++ [y],?_,?_⟩
    ·rw [ab,Bv.1,aL];have:=yH h8 (m:=a) (by omega);unfold jI;rw [ab,bZ];have:sizeLine=16777216:=adY;omega
    ·rw [ak,dX]
    ·rw [Al, <-cq];have up:dH lf H4 (upd H4 lf (.lst (os.map V.ref++ [.ref y]))):=dH.upd;exact (Bv.mono λ_ _ z=>(z.mono W2).but rfl l4 up).snoc ((o4.weak λb hb=>by
      subst hb;exact ⟨⟨_,dY nx tj _ _ ho⟩,_,dY ny VH _ _ (s3 _ _ ho)⟩).but rfl l4 up)
   ·rintro σ H2 ⟨s2,⟨v5,rfl⟩,os,ho,Bv⟩;refine ⟨s2,⟨_,_,rfl⟩,os,ho,?_⟩;rw [Ak];have e:((j.segs.length:Int)-(0+(a:Int))).toNat=j.segs.length-a:=by omega
    rw [e] at Bv;exact Bv
  ·rintro σ H1 ⟨s1,⟨v4,v5,rfl⟩,os,ho,Bv⟩;exact ⟨_,rfl,q H1 lf s1 GW ⟨os,ho,by simpa using Bv⟩⟩
end
end Lf
namespace Lf
open Vbahaf (bitOf cut srcOf dstOf dayOf outward homeward together)
def Tc:Option Int->V
 |none=> .fY
 |some n=> .int n
def uE (K:aa):Sp:=λvs H Q _=> ∃(ca cb:Addr) (s:ag) (j:ai) (i e i' e':Nat) (B B':Addr->Prop),vs= [.ref ca, .ref cb]/\eJ K H B s j i e ca/\eJ K H B' s j i' e' cb/\Q (Tc (Ends (cut j i e) (cut j i' e'))) H
def uJ (K:aa):Sp:=λvs H Q _=> ∃(fa:Addr) (f:aq) (n gD:Int),vs= [.ref fa, .int n, .int gD]/\dB K H fa f/\(n=0∨n=1∨n=2)/\(0<=f.open_/\f.open_<=3)/\Q (.bl (allow n gD f)) H
def pG (K:aa):Sp:=λvs H Q _=> ∃(h:HA) (s:ag) (fl:List aq) (g g':Int),vs= [.ref h.a, .int g, .int g']/\ba K H h s fl/\∀H',aB H H'->Q (.bl (s.combos.contains (g,g'))) H'
def An (K:aa):Sp:=λvs H Q _=> ∃(h:HA) (s:ag) (fl:List aq) (j:ai) (af:Int) (fa ca fb cb:Addr) (f g:aq) (i e i' e':Nat) (B B':Addr->Prop),vs= [.ref h.a, .int af, .ref fa, .ref ca, .ref fb, .ref cb]/\ba K H h s fl/\s.journey=some j/\0<=af/\
 dB K H fa f/\dB K H fb g/\f∈s.fares/\g∈s.fares/\eJ K H B s j i e ca/\eJ K H B' s j i' e' cb/\∀H',aB H H'->Q (.bl (outward j af f (cut j i e)&&(homeward j af g (cut j i' e')&&together s f g (cut j i e) (cut j i' e')))) H'
def vQ (p q:cG):Ends p q=none∨Ends p q=some 0∨Ends p q=some 1∨Ends p q=some 2:=by
 unfold Ends;split
 ·exact .inr (.inl rfl)
 ·split
  ·exact .inr (.inr (.inl rfl))
  ·split
   ·exact .inr (.inr (.inr rfl))
   ·exact .inl rfl
def MP {o n:Int} (h0:0<=o) (h3:o<=3) (hn:n=0∨n=1∨n=2):decide (Builtin.bitAnd o n=n)=(n==0||(n==1&&bitOf o 0)||(n==2&&bitOf o 1)):=by
 have ho:o=0∨o=1∨o=2∨o=3:=by omega
 rcases ho with rfl|rfl|rfl|rfl<;>rcases hn with rfl|rfl|rfl<;>decide+kernel
section
variable {P:adT} {w:adQ} {K:aa} {mg:Str->Option Value} {base:adO} {t:CA}
def yQ:bh ["out","home","near","far"] ["out","home"] (aS (top 58)):=fE
def Ny (D:Dn K mg "digits_needed" (top 58) ["out","home"]) (c:Cs mg):Fn P w K mg base "digits_needed" 1 ["out","home"] (uE K):=by
 refine D.fn λf fd F=>F.ok yQ (λvs H Q E h=>?_) (λdD A outer s H vs Q E hr h=>?_)
 ·obtain ⟨_,_,_,_,_,_,_,_,_,_,rfl,_⟩:=h;rfl
 ·obtain ⟨ca,cb,s,j,i,e,i',e',B,B',rfl,ha,hb,q⟩:=h;refine ⟨_,(am (st 2 yQ.nd (dM gg (aT (pv 0) rfl) (aT (pv 1) rfl) (bR _)))
   (am (st 3 yQ.nd (dM gg (aT (pv 0) rfl) (aT (pv 1) rfl) (bR _)))
   (am (cF (pM (eV (pv 2)) (l5 (eV (pv 3)))).pt
    (aA (aY aE))
    bI)
   (am (cF (eV (pv 2))
    (aA (aY (kG c.wg)))
    bI)
   (am (cF (eV (pv 3))
    (aA (aY (kG c.xo)))
    bI)
   (aA (aY l8))))))),?_⟩
  refine ⟨_,rfl,aH ha.origin ⟨_,rfl,aH hb.target ⟨rfl,?_⟩⟩⟩;refine ⟨_,rfl,aH ha.target ⟨_,rfl,aH hb.origin ⟨rfl,?_⟩⟩⟩;rw [dV,dV];unfold Ends at q;by_cases h1:srcOf (cut j i e)=dstOf (cut j i' e')
  ·by_cases h2:dstOf (cut j i e)=srcOf (cut j i' e')
   ·rw [if_pos ⟨h1,h2⟩] at q;refine ⟨_,rfl,_,rfl,?_⟩;rw [decide_eq_true h1,decide_eq_true h2];exact ⟨_,rfl,_,rfl,q⟩
   ·rw [if_neg (λz=>h2 z.2),if_pos h1] at q;refine ⟨_,rfl,_,rfl,?_⟩;rw [decide_eq_true h1,decide_eq_false h2];exact ⟨_,rfl,_,rfl,_,rfl,_,rfl,q⟩
  ·by_cases h2:dstOf (cut j i e)=srcOf (cut j i' e')
   ·rw [if_neg (λz=>h1 z.1),if_neg h1,if_pos h2] at q;refine ⟨_,rfl,_,rfl,?_⟩;rw [decide_eq_false h1,decide_eq_true h2];exact ⟨_,rfl,_,rfl,_,rfl,_,rfl,q⟩
   ·rw [if_neg (λz=>h1 z.1),if_neg h1,if_neg h2] at q;refine ⟨_,rfl,_,rfl,?_⟩;rw [decide_eq_false h1,decide_eq_false h2];exact ⟨_,rfl,_,rfl,_,rfl,_,rfl,q⟩
def Gi:bh ["fare","needed","stay"] ["fare","needed","stay"] (aS (top 59)):=fE
def Hm (D:Dn K mg "allows" (top 59) ["fare","needed","stay"]):Fn P w K mg base "allows" 1 ["fare","needed","stay"] (uJ K):=by
 refine D.fn λf fd F=>F.ok Gi (λvs H Q E h=>?_) (λdD A outer s H vs Q E hr h=>?_)
 ·obtain ⟨_,_,_,_,rfl,_⟩:=h;rfl
 ·obtain ⟨fa,f,n,gD,rfl,hf,hn,⟨ho0,VR⟩,q⟩:=h;have key:allow n gD f=(decide (Builtin.bitAnd f.open_ n=n)&&(decide (f.leastStay<=gD)&&decide (gD<=f.mostStay))):=by unfold allow;rw [MP ho0 VR hn]
  refine ⟨_,(aA (aY (eI (dM gg (bX y6 (aT (pv 0) rfl) (pv 1)) (pv 1) (bR _)) (jL (Jx vc vc (aT (pv 0) rfl) (pv 2) (aT (pv 0) rfl)))))),?_⟩;refine ⟨_,rfl,aH hf.oK ⟨_,rfl,_,_,rfl,rfl,_,rfl,rfl,_,rfl,?_⟩⟩;show if decide (V.int (Builtin.bitAnd f.open_ n)=V.int n)=true then _ else _
  rw [dV];refine iB (λe1=>?_) (λe1=>ck q (by rw [key,e1];rfl));refine ⟨_,rfl,aH hf.mi ⟨_,rfl,_,_,rfl,rfl,_,rfl,?_⟩⟩;refine iB (λe2=>?_) (λe2=>ck q (by rw [key,e1,e2];rfl));refine ⟨_,rfl,aH hf.oO ⟨_,_,rfl,rfl,?_⟩⟩;exact ck q (by rw [key,e1,e2];rfl)
def Pp:bh ["house","group_out","group_home"] ["house","group_out","group_home"] (aS (top 60)):=fE
def QG (D:Dn K mg "go_together" (top 60) ["house","group_out","group_home"]):Fn P w K mg base "go_together" 1 ["house","group_out","group_home"] (pG K):=by
 refine D.fn λf fd F=>F.ok Pp (λvs H Q E h=>?_) (λdD A outer s H vs Q E hr h=>?_)
 ·obtain ⟨_,_,_,_,_,rfl,_⟩:=h;rfl
 ·obtain ⟨h,s,fl,g,g',rfl,hh,q⟩:=h;have hu:=jP hr;obtain ⟨kvs,h1,h2,h3,h4⟩:=hh.groups;refine ⟨_,(aA (aY (qD hu (aT (pv 0) rfl) (fM (ae (pv 1) (ae (pv 2) ax))) iE ⟨rfl,rfl,rfl,rfl⟩))),?_⟩;refine ⟨_,rfl,aH hh.yd ⟨h.t,rfl, .inr ⟨kvs, .inl h1⟩,_,rfl,_,rfl,(by show 2<=sizeLine;decide),λp hp=>?_⟩⟩;refine ⟨_,j7.t (k:= [az g,az g']) (bp h1 (aG h1 hp)) ak,?_⟩;rw [h4];exact q _ (aB.new hp)
def yR:bh ["house","kind","fare_out","out","fare_home","home","needed","stay"] ["house","kind","fare_out","out","fare_home","home"] (aS (top 61)):=fE
def Nz (D:Dn K mg "make_return" (top 61) ["house","kind","fare_out","out","fare_home","home"]) (G1:Fn P w K mg base "digits_needed" 1 ["out","home"] (uE K)) (G2:Fn P w K mg base "fits_out" 4 ["fare","component","kind"] (kg K outward))
  (G3:Fn P w K mg base "fits_home" 4 ["fare","component","kind"] (kg K homeward)) (G4:Fn P w K mg base "allows" 1 ["fare","needed","stay"] (uJ K)) (G5:Fn P w K mg base "go_together" 1 ["house","group_out","group_home"] (pG K)):
  Fn P w K mg base "make_return" 5 ["house","kind","fare_out","out","fare_home","home"] (An K):=by
 refine D.fn λf fd F=>F.ok yR (λvs H Q E h=>?_) (λdD A outer s H vs Q E hr h=>?_)
 ·obtain ⟨_,_,_,_,_,_,_,_,_,_,_,_,_,_,_,_,_,rfl,_⟩:=h;rfl
 ·obtain ⟨h,s,fl,j,af,fa,ca,fb,cb,f,g,i,e,i',e',B,B',rfl,hh,hj,hk,hf,hg,mf,mg',hc,hd,q⟩:=h;have hJ:=hh.ok.jo j hj;have of:=(t8 hh.ok mf).2.2.2.2.2;have og:=(t8 hh.ok mg').2.2.2.2.2;refine ⟨_,(am (st 6 yR.nd (pc G1 (hr.mono (by decide)) (ae (pv 3) (ae (pv 5) ax))))
   (am (st 7 yR.nd (bX gd (aT (pv 5) rfl) (aT (pv 3) rfl)))
   (aA (aY (eI (Jw (E1 (pv 6))) (eI (pc G2 (hr.mono (by decide)) (ae (pv 2) (ae (pv 3) (ae (pv 1) ax)))) (eI (pc G3 (hr.mono (by decide)) (ae (pv 4) (ae (pv 5) (ae (pv 1) ax))))
    (eI (pc G4 (hr.mono (by decide)) (ae (pv 2) (ae (pv 6) (ae (pv 7) ax)))) (eI (pc G4 (hr.mono (by decide)) (ae (pv 4) (ae (pv 6) (ae (pv 7) ax)))) (jL (pc G5 (hr.mono (by decide)) (ae (pv 0) (ae (aT (pv 2) rfl) (ae (aT (pv 4) rfl) ax)))))))))))))),?_⟩
  refine ⟨_,rfl,_,rfl,ca,cb,s,j,i,e,i',e',B,B',rfl,hc,hd,?_⟩;refine ⟨_,rfl,aH hd.day ⟨_,rfl,aH hc.day ⟨_,_,rfl,rfl,?_⟩⟩⟩;have q0:=q H (aB.refl H);rw [ka] at q0 q;refine ⟨_,rfl,_,rfl,?_⟩;cases hE:Ends (cut j i e) (cut j i' e') with
  |none=>
   rw [hE] at q0;exact ck q0 (by simp)
  |some n=>
   rw [hE] at q q0;have hn:n=0∨n=1∨n=2:=by
    rcases vQ (cut j i e) (cut j i' e') with z|z|z|z<;>rw [hE] at z<;>cases z
    ·exact .inl rfl
    ·exact .inr (.inl rfl)
    ·exact .inr (.inr rfl)
   refine ⟨_,rfl,_,rfl,_,rfl,fa,ca,f,s,j,i,e,af,B,rfl,hf,hc,hk,hJ,_,rfl,?_⟩;refine iB (λe1=>?_) (λe1=>ck q0 (by rw [e1];rfl));refine ⟨_,rfl,_,rfl,_,rfl,fb,cb,g,s,j,i',e',af,B',rfl,hg,hd,hk,hJ,_,rfl,?_⟩;refine iB (λe2=>?_) (λe2=>ck q0 (by rw [e1,e2];rfl));refine ⟨_,rfl,_,rfl,_,rfl,fa,f,n,_,rfl,hf,hn,of,_,rfl,?_⟩;refine iB (λe3=>?_) (λe3=>ck q0 (by rw [e1,e2];show (true&&(true&&(allow n (dayOf (cut j i' e')-dayOf (cut j i e)) f&&_)))=false;rw [e3];rfl));refine ⟨_,rfl,_,rfl,_,rfl,fb,g,n,_,rfl,hg,hn,og,_,rfl,?_⟩;refine iB (λe4=>?_) (λe4=>ck q0 (by rw [e1,e2];show (true&&(true&&(allow n (dayOf (cut j i' e')-dayOf (cut j i e)) f&&(allow n (dayOf (cut j i' e')-dayOf (cut j i e)) g&&_))))=false;rw [e3,e4];rfl));refine ⟨_,rfl,_,rfl,aH hf.group ⟨_,rfl,aH hg.group ⟨h,s,fl,_,_,rfl,hh,λH' sm=>?_⟩⟩⟩;refine ck (q H' sm) ?_;rw [e1,e2];show (true&&(true&&(allow n (dayOf (cut j i' e')-dayOf (cut j i e)) f&&(allow n (dayOf (cut j i' e')-dayOf (cut j i e)) g&&_))))=_;rw [e3,e4];rfl
end
end Lf
namespace Lf
def ml {J:It} {n:Nat} {g:TG} {tb:TS} {D:L2.Ends} {σ:L2.St} {H:Hp} (Pv:Nat->L2.St->Hp->Prop) (h0:Pv 0 σ H) (OE: ∀i σ H,i<n->Pv i σ H->J.go i H) (Qj: ∀σ H,Pv n σ H->J.stop n H)
  (hs: ∀i σ H x H',i<n->Pv i σ H->J.Ik i H x H'->g x σ H' λkT H2=>tb {D with nx:=Pv (i+1),ct:=Pv (i+1),bk:=D.nx} kT H2) (hd: ∀σ H,Pv n σ H->D.nx σ H):
  ∃W:Nat->Nat->L2.St->Hp->Prop,(∃m,W 0 m σ H)/\∀i m σ H,W i m σ H->
   (J.stop i H/\D.nx σ H)∨(J.go i H/\∃N:L2.St->Hp->Prop,(∀eX H',N eX H'->∃m',m'<m/\W (i+1) m' eX H')/\∀x H',J.Ik i H x H'->g x σ H' λkT H2=>tb {D with nx:=N,ct:=N,bk:=D.nx} kT H2):=by
 refine ⟨λi m σ H=>m=n-i/\i<=n/\Pv i σ H,⟨n,by simp,bv _,h0⟩,?_⟩;rintro i m σ H ⟨rfl,hi,p⟩;by_cases jd:i<n
 ·exact .inr ⟨OE i σ H jd p,Pv (i+1),λeX H' p'=>⟨n-(i+1),by omega,rfl,jd,p'⟩,λx H' y=>hs i σ H x H' jd p y⟩
 ·have e:i=n:=by omega
  subst e;exact .inl ⟨Qj σ H p,hd σ H p⟩
def DH {J:It} {n:Nat} {g:TG} {tt:TT} {te:TE} {vs:List Nat} {σ:L2.St} {H1:Hp} {D:Addr} {Qd:Hp->Prop} (Pv:Nat->Hp->Prop) (h0:Pv 0 (upd H1 D (.lst []))) (OE: ∀i H,i<n->Pv i H->J.go i H) (Qj: ∀H,Pv n H->J.stop n H)
  (hs: ∀i H x H',i<n->Pv i H->J.Ik i H x H'->g x (wipe σ vs) H' λkT H2=>wipe kT vs=wipe σ vs/\tt kT H2 λb H3=>
   if b=true then te kT H3 λy H4=> ∃acc,H4 D=some (.lst acc)/\acc.length<sizeLine/\Pv (i+1) (upd H4 D (.lst (acc++ [y]))) else Pv (i+1) H3) (hd: ∀H,Pv n H->Qd H):
  ∃W:Nat->Nat->Hp->Prop,(∃m,W 0 m (upd H1 D (.lst [])))/\∀i m H,W i m H->
   (J.stop i H/\Qd H)∨(J.go i H/\∃Nx:Hp->Prop,(∀H',Nx H'->∃m',m'<m/\W (i+1) m' H')/\∀x H',J.Ik i H x H'->g x (wipe σ vs) H' λkT H2=>wipe kT vs=wipe σ vs/\tt kT H2 λb H3=>
    if b=true then te kT H3 λy H4=> ∃acc,H4 D=some (.lst acc)/\acc.length<sizeLine/\Nx (upd H4 D (.lst (acc++ [y]))) else Nx H3):=by
 refine ⟨λi m H=>m=n-i/\i<=n/\Pv i H,⟨n,by simp,bv _,h0⟩,?_⟩;rintro i m H ⟨rfl,hi,p⟩;by_cases jd:i<n
 ·exact .inr ⟨OE i H jd p,Pv (i+1),λH' p'=>⟨n-(i+1),by omega,rfl,jd,p'⟩,λx H' y=>hs i H x H' jd p y⟩
 ·have e:i=n:=by omega
  subst e;exact .inl ⟨Qj H p,hd H p⟩
end Lf
namespace Lf
open Vbahaf (rowLess least pay)
abbrev Zs:=List (Int×(Int×Int)×Addr)
structure FN (A:List (Int×Int×Int)) (Z:Zs):Prop where
 nd:(Z.map (·.1)).Nodup
 is: ∀g a k,(∃p,(g,(a,k),p)∈Z)↔least (rowsOf A g)=some [a,k]
def yU {A:List (Int×Int×Int)} {g:Int} {r:List Int} (h:least (rowsOf A g)=some r): ∃a k,r= [a,k]:=by
 obtain ⟨x,_,rfl⟩:=aj.mp (cu.mp h).1;exact ⟨_,_,rfl⟩
def FN.nil:FN [] []:=⟨eT,λg a k=>⟨λ⟨p,h⟩=>(by cases h),λh=>(by cases h)⟩⟩
def FN.new {A:List (Int×Int×Int)} {Z:Zs} (G:FN A Z) {g a k:Int} {p:Addr} (h: ∀z∈Z,z.1≠g):FN (A++ [(g,a,k)]) (Z++ [(g,(a,k),p)]):=by
 have T9:least (rowsOf A g)=none:=by
  cases q:least (rowsOf A g) with
  |none=>rfl
  |some r=>
   obtain ⟨a',k',rfl⟩:=yU q;obtain ⟨p',hp⟩:=(G.is g a' k').mpr q;exact absurd rfl (h _ hp)
 constructor
 ·rw [aO];refine E8 G.nd λm=>?_;obtain ⟨z,hz,e⟩:=aj.mp m;exact h z hz e
 ·intro g' a' k';rw [sB];by_cases e:g=g'
  ·subst e;rw [if_pos rfl,vp,T9];constructor
   ·rintro ⟨p',hp⟩;rcases bG.mp hp with z|z
    ·exact absurd rfl (h _ z)
    ·have:=aP.mp z;cases this;rfl
   ·intro z;have z:some [a,k]=some [a',k']:=z;cases z;exact ⟨p,bG.mpr (.inr (aP.mpr rfl))⟩
  ·rw [if_neg e, <-G.is g' a' k'];constructor
   ·rintro ⟨p',hp⟩;rcases bG.mp hp with z|z
    ·exact ⟨p',z⟩
    ·have:=aP.mp z;cases this;exact absurd rfl e
   ·rintro ⟨p',hp⟩;exact ⟨p',bG.mpr (.inl hp)⟩
def wW (Z:Zs) (g:Int) (v:(Int×Int)×Addr):Zs:=Z.map λz=>if z.1=g then (g,v) else z
def FN.old {A:List (Int×Int×Int)} {Z:Zs} (G:FN A Z) {g a k a0 k0:Int} {p p0:Addr} (h:(g,(a0,k0),p0)∈Z):FN (A++ [(g,a,k)]) (wW Z g (if rowLess [a0,k0] [a,k]=true then ((a0,k0),p0) else ((a,k),p))):=by
 have hl:=(G.is g a0 k0).mp ⟨p0,h⟩;have ek:(wW Z g (if rowLess [a0,k0] [a,k]=true then ((a0,k0),p0) else ((a,k),p))).map (·.1)=Z.map (·.1):=by
  unfold wW;rw [bm];refine bP λz _=>?_;show (if z.1=g then (g,_) else z).1=z.1;by_cases e:z.1=g
  ·rw [if_pos e];exact e.symm
  ·rw [if_neg e]
 constructor
 ·rw [ek];exact G.nd
 ·intro g' a' k';rw [sB];by_cases e:g=g'
  ·subst e;rw [if_pos rfl,vp,hl];have em: ∀a' k' p',(g,(a',k'),p')∈wW Z g (if rowLess [a0,k0] [a,k]=true then ((a0,k0),p0) else ((a,k),p))↔((a',k'),p')=(if rowLess [a0,k0] [a,k]=true then ((a0,k0),p0) else ((a,k),p)):=λa' k' p'=>by
    unfold wW;constructor
    ·intro z;obtain ⟨y,hy,ey⟩:=aj.mp z;by_cases e:y.1=g
     ·rw [if_pos e] at ey;exact (gG ey).2.symm
     ·rw [if_neg e] at ey;rw [ey] at e;exact absurd rfl e
    ·intro z;exact aj.mpr ⟨_,h,by rw [if_pos rfl, <-z]⟩
   cases c:rowLess [a0,k0] [a,k] with
   |true=>
    rw [c] at em;simp only [if_true] at em⊢;rw [uX c];simp only [bN,if_false];constructor
    ·rintro ⟨p',hp⟩;have:=(em _ _ _).mp hp;cases this;rfl
    ·intro z;cases z;exact ⟨p0,(em _ _ _).mpr rfl⟩
   |false=>
    rw [c] at em;simp only [bN,if_false] at em⊢;constructor
    ·rintro ⟨p',hp⟩;have:=(em _ _ _).mp hp;cases this;cases d:rowLess [a,k] [a0,k0] with
     |true=>rfl
     |false=>rw [if_neg aJ,jK d c]
    ·intro z;cases d:rowLess [a,k] [a0,k0] with
     |true=>
      rw [d,if_pos rfl] at z;cases z;exact ⟨p,(em _ _ _).mpr rfl⟩
     |false=>
      rw [d,if_neg aJ] at z;have e:=jK d c;cases e;cases z;exact ⟨p,(em _ _ _).mpr rfl⟩
  ·rw [if_neg e, <-G.is g' a' k'];unfold wW;constructor
   ·rintro ⟨p',hp⟩;obtain ⟨y,hy,ey⟩:=aj.mp hp;by_cases e2:y.1=g
    ·rw [if_pos e2] at ey;exact absurd (gG ey).1 e
    ·rw [if_neg e2] at ey;rw [ey] at hy;exact ⟨p',hy⟩
   ·rintro ⟨p',hp⟩;exact ⟨p',aj.mpr ⟨_,hp,by rw [if_neg (λz=>e z.symm)]⟩⟩
def qg (Z:Zs):List (Key×V):=Z.map λz=>(az z.1,V.ref z.2.2)
def FM (H:Hp) (d:Addr) (A:List (Int×Int×Int)):Prop:= ∃Z:Zs,H d=some (.dK (qg Z))/\FN A Z/\(∀z∈Z,H z.2.2=some (.tup [.int z.2.1.1, .int z.2.1.2]))/\Z.length<=60
def FM.mono {H H':Hp} {d:Addr} {A:List (Int×Int×Int)} (h:FM H d A) (s:aB H H'):FM H' d A:=by
 obtain ⟨Z,h1,h2,h3,h4⟩:=h;exact ⟨Z,s _ _ h1,h2,λz hz=>s _ _ (h3 z hz),h4⟩
def JM {Z:Zs} {g:Int} (h:cx (qg Z) (az g)=none): ∀z∈Z,z.1≠g:=λz hz e=>by
 have:=Ip h;refine this (aj.mpr ⟨(az z.1, .ref z.2.2),aj.mpr ⟨z,hz,rfl⟩,by rw [<-e]⟩)
def JL {Z:Zs} {g:Int} {v:V} (h:cx (qg Z) (az g)=some v): ∃a k p,v= .ref p/\(g,(a,k),p)∈Z:=by
 obtain ⟨⟨g',⟨a,k⟩,p⟩,hz,e⟩:=aj.mp (qp h);cases e;exact ⟨a,k,p,rfl,hz⟩
def y3 {Z:Zs} {g a k:Int} {p:Addr} (h:cx (qg Z) (az g)=none):putK (qg Z) (az g) (.ref p)=qg (Z++ [(g,(a,k),p)]):=by
 rw [qA _ h];unfold qg;rw [aO];rfl
def y2 {Z:Zs} {g:Int} {v:V} {x:(Int×Int)×Addr} (h:cx (qg Z) (az g)=some v):putK (qg Z) (az g) (.ref x.2)=qg (wW Z g x):=by
 unfold putK;rw [fT,h];simp only [ic,if_true];unfold qg wW;rw [bm,bm];refine bP λz _=>?_;show (if (az z.1:Key)=az g then ((az z.1:Key),V.ref x.2) else (az z.1,V.ref z.2.2))=(az (if z.1=g then (g,x) else z).1,V.ref (if z.1=g then (g,x) else z).2.2)
 by_cases e:z.1=g
 ·rw [if_pos (by rw [e]),if_pos e,e]
 ·rw [if_neg (λy=>e (cY y)),if_neg e]
def EG (K:aa):Sp:=λvs H Q _=> ∃(lo:Addr) (s:ag) (af:Int) (c:cG) (fs:List aq) (n gD:Int) (B:Addr->Prop),vs= [.ref lo, .int n, .int gD]/\gj K H B s af c lo fs/\(∀f∈fs,f∈s.fares)/\kM s/\(n=0∨n=1∨n=2)/\fs.length<=60/\
 ∀(H':Hp) (d:Addr),aB H H'->H d=none->FM H' d (side s af c n gD fs)->Q (.ref d) H'
def Ga {s:ag} {af:Int} {c:cG} {n gD:Int} {fs:List aq} {f:aq}:side s af c n gD (fs++ [f])=if allow n gD f=true then side s af c n gD fs++ [(f.group,pay s af f c,f.key)] else side s af c n gD fs:=by
 unfold side;rw [dq,aO,bw];cases allow n gD f<;>simp
section
variable {P:adT} {w:adQ} {K:aa} {mg:Str->Option Value} {base:adO} {t:CA}
def uR:bh ["offers","needed","stay","least","paid","fare","found"] ["offers","needed","stay"] (aS (top 62)):=fE
def QL (D:Dn K mg "least_by_group" (top 62) ["offers","needed","stay"]) (b:Bl mg) (G1:Fn P w K mg base "allows" 1 ["fare","needed","stay"] (uJ K)):Fn P w K mg base "least_by_group" 2 ["offers","needed","stay"] (EG K):=by
 refine D.fn λf fd F=>F.ok uR (λvs H Q E h=>?_) (λdD A outer s H vs Q E hr h=>?_)
 ·obtain ⟨_,_,_,_,_,_,_,_,rfl,_⟩:=h;rfl
 ·obtain ⟨lo,s,af,c,fs,n,gD,B,rfl,⟨_,ps,hl,ho⟩,hm,ok,hn,xf,q⟩:=h;have hu:=jP hr;refine ⟨_,(am (st 3 uR.nd u5)
   (am (dw PassesOwn.never rfl (cE (pv 0)) (kH rfl (cH (gn 4 uR.nd) (cH (gn 5 uR.nd) g8)))
    (aA (cF (eV (pc G1 (hr.mono (by decide)) (ae (pv 5) (ae (pv 1) (ae (pv 2) ax)))))
    (am (st 6 uR.nd (fM (ae (pv 4) (ae (aT (pv 5) rfl) ax))))
   (aA (l6 hu (pv 3) (aT (pv 5) rfl) (d9 (D9 rfl hr.units) rfl b.min ii (ae (pv 6) (ae (qD hu (pv 3) (aT (pv 5) rfl) (pv 6) ⟨rfl,rfl,rfl,rfl⟩) ax))) rfl)))
    bI)))
   (aA (aY (pv 3))))),?_⟩
  intro d hd;refine ⟨_,rfl,lo,rfl,⟨_, .of (aB.new hd _ _ hl)⟩,fc (K:=K) (a:=lo) (xs:=ps.map V.ref) (λi σ H'=>aB H H'/\(∃v4 v5 v6,σ= [some (.ref lo),some (.int n),some (.int gD),some (.ref d),v4,v5,v6])/\∃Z:Zs,H' d=some (.dK (qg Z))/\FN (side s af c n gD (fs.take i)) Z/\Z.length<=i/\∀z∈Z,H' z.2.2=some (.tup [.int z.2.1.1, .int z.2.1.2]))
   ⟨aB.new hd,⟨none,none,none,rfl⟩,[],ak,FN.nil,ay _,λz hz=>by cases hz⟩ (λi σ H' _ ⟨sm,_⟩=> .of (sm _ _ hl)) ?_ ?_⟩
  ·rintro i x σ H1 hx ⟨s1,⟨v4,v5,v6,rfl⟩,Z,hz,hG,YJ,ht⟩;obtain ⟨p,hp,rfl⟩:=b0 hx;obtain ⟨f,hf,fa,LH,rT⟩:=ho.get' hp;have hi:i<60:=bu (aK.mp hf).1 xf;refine ⟨p,_,rfl, .of (s1 _ _ LH),rfl,_,_,rfl,_,_,rfl,rfl,?_⟩;have fm:=hm f (aI hf);have F1:=rT.mono s1;refine ⟨_,rfl,_,rfl,_,rfl,fa,f,n,gD,rfl,F1,hn,(t8 ok fm).2.2.2.2.2,_,rfl,?_⟩;rw [dQ hf,Ga] at*;refine iB (λe1=>?_) (λe1=>?_)
   ·rw [if_pos e1];refine ⟨_,rfl,_,rfl,aH F1.key ⟨(by show 2<=sizeLine;decide),λp6 ZV=>?_⟩⟩;have s2:aB H1 (upd H1 p6 (.tup [.int (pay s af f c), .int f.key])):=aB.new ZV;have F2:=F1.mono s2;have Qg:=s2 _ _ hz;refine ⟨_,rfl,_,rfl,d,rfl, .inl ⟨_, .inl Qg⟩,_,rfl,aH F2.group ⟨_,rfl,_,j7.k (k:=az f.group) Qg,?_⟩⟩;have Z0:d≠p6:=aG hz ZV;cases hv:cx (qg Z) (az f.group) with
    |none=>
     refine ⟨p6,p6,[pay s af f c,f.key],[pay s af f c,f.key],rfl, .of ak, .of ak,?_⟩;rw [fX,if_neg aJ];refine ⟨_,rfl,_,rfl,aH F2.group ⟨d,_,rfl,oq.k (k:=az f.group) Qg ?_,aB.put (s1.trans s2) hd,⟨_,_,_,rfl⟩,_,?_,hG.new (p:=p6) (JM hv),?_,?_⟩⟩
     ·unfold qg;rw [ab];have:sizeLine=16777216:=adY;omega
     ·rw [ak,y3 (a:=pay s af f c) (k:=f.key) hv]
     ·rw [aL];simp only [gu];omega
     ·intro z pV;rcases bG.mp pV with y|y
      ·exact bp (s2 _ _ (ht z y)) (cg (s2 _ _ (ht z y)) Qg λz=>nomatch z)
      ·cases aP.mp y;exact bp ak Z0.symm
    |some v=>
     obtain ⟨a0,k0,p0,rfl,VT⟩:=JL hv;refine ⟨p6,p0,[pay s af f c,f.key],[a0,k0],rfl, .of ak, .of (s2 _ _ (ht _ VT)),?_⟩;have ev:V.ref (if rowLess [a0,k0] [pay s af f c,f.key]=true then p0 else p6)=V.ref (if rowLess [a0,k0] [pay s af f c,f.key]=true then ((a0,k0),p0) else ((pay s af f c,f.key),p6)).2:=by
      cases rowLess [a0,k0] [pay s af f c,f.key] <;>rfl
     rw [ev];refine ⟨_,rfl,_,rfl,aH F2.group ⟨d,_,rfl,oq.k (k:=az f.group) Qg ?_,aB.put (s1.trans s2) hd,⟨_,_,_,rfl⟩,_,?_,hG.old (p:=p6) VT,?_,?_⟩⟩
     ·unfold qg;rw [ab];have:sizeLine=16777216:=adY;omega
     ·rw [ak,y2 hv]
     ·unfold wW;rw [ab];omega
     ·intro z pV;unfold wW at pV;obtain ⟨y,hy,e⟩:=aj.mp pV;by_cases c1:y.1=f.group
      ·rw [if_pos c1] at e;cases c2:rowLess [a0,k0] [pay s af f c,f.key] with
       |true=>
        rw [c2,if_pos rfl] at e;cases e;exact bp (s2 _ _ (ht _ VT)) (cg (s2 _ _ (ht _ VT)) Qg λz=>nomatch z)
       |false=>
        rw [c2,if_neg aJ] at e;cases e;exact bp ak Z0.symm
      ·rw [if_neg c1] at e;cases e;exact bp (s2 _ _ (ht _ hy)) (cg (s2 _ _ (ht _ hy)) Qg λz=>nomatch z)
   ·rw [if_neg (by rw [e1];exact aJ)];exact ⟨s1,⟨_,_,_,rfl⟩,Z,hz,hG,by omega,ht⟩
  ·rintro σ H1 ⟨s1,⟨v4,v5,v6,rfl⟩,Z,hz,hG,YJ,ht⟩;rw [ab,ho.1,bq] at hG;rw [ab,ho.1] at YJ;exact ⟨_,rfl,q H1 d s1 hd ⟨Z,hz,hG,ht,aV YJ xf⟩⟩
end
end Lf
namespace Lf
open Vbahaf (rowLess least pay cut bestPair dayOf)
def tr (z:Int×(Int×Int)×Addr):Int×Int×Int:=(z.1,z.2.1.1,z.2.1.2)
def joinR (s:ag) (x y:Int×(Int×Int)×Addr):List Int:= [x.2.1.1+y.2.1.1,x.2.1.2,y.2.1.2]
def rowOne (s:ag) (x:Int×(Int×Int)×Addr) (B:Zs):List (List Int):=(B.filter λy=>s.combos.contains (x.1,y.1)).map (joinR s x)
def jg (s:ag) (A B:Zs):List (List Int):=A.flatMap λx=>rowOne s x B
def AG (s:ag) (A B:Zs) (x:Int×(Int×Int)×Addr):jg s (A++ [x]) B=jg s A B++rowOne s x B:=by unfold jg;rw [cc];simp
def AF (s:ag) (x y:Int×(Int×Int)×Addr) (B:Zs):rowOne s x (B++ [y])=if s.combos.contains (x.1,y.1)=true then rowOne s x B++ [joinR s x y] else rowOne s x B:=by
 unfold rowOne;rw [dq,aO,bw];cases s.combos.contains (x.1,y.1)<;>simp
def uU (s:ag) (x:Int×(Int×Int)×Addr) (B:Zs):(rowOne s x B).length<=B.length:=by unfold rowOne;rw [ab];exact aN _ _
def uW (s:ag) (B:Zs): ∀(A:Zs),(jg s A B).length<=A.length*B.length
 | []=>bv _
 |x::A=>by
  have ih:=uW s B A;have:=uU s x B;unfold jg at ih⊢;rw [bB,aL,aR,tL];omega
def zf {s:ag} {A B:List (Int×Int×Int)} {ZA ZB:Zs} (gA:FN A ZA) (gB:FN B ZB):
  least (jg s ZA ZB)=least (A.flatMap λx=>(B.filter λy=>s.combos.contains (x.1,y.1)).map λy=> [x.2.1+y.2.1,x.2.2,y.2.2]):=by
 have mem: ∀{A:List (Int×Int×Int)} {Z:Zs},FN A Z->∀g a k,(g,a,k)∈Z.map tr↔least (rowsOf A g)=some [a,k]:=λ{A Z} G g a k=>by
  rw [<-G.is g a k];constructor
  ·intro h;obtain ⟨⟨g',⟨a',k'⟩,p⟩,hz,e⟩:=aj.mp h;cases e;exact ⟨p,hz⟩
  ·intro ⟨p,hz⟩;exact aj.mpr ⟨_,hz,rfl⟩
 rw [<-zh (R:=λg h=>s.combos.contains (g,h)) (mem gA) (mem gB)];unfold jg rowOne;rw [ul]
 congr 1
 refine cP λx _=>?_;rw [ik,bm];rfl
structure LR (H H':Hp) (d1 d2 lf:Addr) (o1 o2:HO) (ZA ZB:Zs) (rows:List (List Int)):Prop where
 base:aB H H'
 h1:H' d1=some o1
 h2:H' d2=some o2
 ta: ∀z∈ZA,H' z.2.2=some (.tup [.int z.2.1.1, .int z.2.1.2])
 tb: ∀z∈ZB,H' z.2.2=some (.tup [.int z.2.1.1, .int z.2.1.2])
 UJ: ∃ps:List Addr,H' lf=some (.lst (ps.map V.ref))/\bQ (λp r=>H' p=some (.tup (r.map V.int))) ps rows
def LR.mono {H H' Rf:Hp} {d1 d2 lf:Addr} {o1 o2:HO} {ZA ZB:Zs} {rows:List (List Int)} (h:LR H H' d1 d2 lf o1 o2 ZA ZB rows) (s:aB H' Rf):LR H Rf d1 d2 lf o1 o2 ZA ZB rows:=by
 obtain ⟨ps,f1,f2⟩:=h.UJ;exact ⟨h.base.trans s,s _ _ h.h1,s _ _ h.h2,λz hz=>s _ _ (h.ta z hz),λz hz=>s _ _ (h.tb z hz),ps,s _ _ f1,f2.mono λ_ _ z=>s _ _ z⟩
def LR.Ou {H H':Hp} {d1 d2 lf:Addr} {o1 o2:HO} {ZA ZB:Zs} {rows:List (List Int)} (h:LR H H' d1 d2 lf o1 o2 ZA ZB rows) (n:H d2=none) (ne:d1≠d2) (hl:lf≠d2) (ht: ∀xs,HO.tup xs≠o2) (o:HO):LR H (upd H' d2 o) d1 d2 lf o1 o ZA ZB rows:=by
 obtain ⟨ps,f1,f2⟩:=h.UJ;exact ⟨aB.put h.base n,bp h.h1 ne,ak,λz hz=>bp (h.ta z hz) (cg (h.ta z hz) h.h2 (ht _)),λz hz=>bp (h.tb z hz) (cg (h.tb z hz) h.h2 (ht _)),ps,bp f1 hl,f2.mono λ_ _ z=>bp z (cg z h.h2 (ht _))⟩
def LR.Ov {H H':Hp} {d1 d2 lf:Addr} {o1 o2:HO} {ZA ZB:Zs} {rows:List (List Int)} (h:LR H H' d1 d2 lf o1 o2 ZA ZB rows) (n:H d1=none) (ne:d1≠d2) (hl:lf≠d1) (ht: ∀xs,HO.tup xs≠o1) (o:HO):LR H (upd H' d1 o) d1 d2 lf o o2 ZA ZB rows:=by
 obtain ⟨ps,f1,f2⟩:=h.UJ;exact ⟨aB.put h.base n,ak,bp h.h2 ne.symm,λz hz=>bp (h.ta z hz) (cg (h.ta z hz) h.h1 (ht _)),λz hz=>bp (h.tb z hz) (cg (h.tb z hz) h.h1 (ht _)),ps,bp f1 hl,f2.mono λ_ _ z=>bp z (cg z h.h1 (ht _))⟩
def pH (K:aa):Sp:=λvs H Q _=> ∃(h:HA) (s:ag) (fl:List aq) (j:ai) (af:Int) (oa ob:Addr) (i e i' e':Nat) (B B':Addr->Prop),vs= [.ref h.a, .ref oa, .ref ob]/\ba K H h s fl/\s.journey=some j/\dA K H B s fl j af i e oa/\dA K H B' s fl j af i' e' ob/\
 (∀H',aB H H'->bestPair s j af (cut j i e) (cut j i' e')=none->Q .fY H')/\∀(H':Hp) (p:Addr) (a k m:Int),aB H H'->bestPair s j af (cut j i e) (cut j i' e')=some [a,k,m]->H' p=some (.tup [.int a, .int k, .int m])->Q (.ref p) H'
section
variable {P:adT} {w:adQ} {K:aa} {mg:Str->Option Value} {base:adO} {t:CA}
def g7:bh ["house","out_offers","home_offers","out","home","needed","stay","outs","homes","found","group_out","by_out","group_home","by_home"] ["house","out_offers","home_offers"] (aS (top 63)):=fE
def NB (D:Dn K mg "least_return" (top 63) ["house","out_offers","home_offers"]) (b:Bl mg) (G1:Fn P w K mg base "digits_needed" 1 ["out","home"] (uE K)) (G2:Fn P w K mg base "least_by_group" 2 ["offers","needed","stay"] (EG K)) (G3:Fn P w K mg base "go_together" 1 ["house","group_out","group_home"] (pG K)):
  Fn P w K mg base "least_return" 3 ["house","out_offers","home_offers"] (pH K):=by
 refine D.fn λf fd F=>F.ok g7 (λvs H Q E h=>?_) (λdD A outer s H vs Q E hr h=>?_)
 ·obtain ⟨_,_,_,_,_,_,_,_,_,_,_,_,_,rfl,_⟩:=h;rfl
 ·obtain ⟨h,s,fl,j,af,oa,ob,i,e,i',e',B,B',rfl,hh,hj,ha,hb,q0,q1⟩:=h;obtain ⟨ca,NH,rm⟩:=ha.comp;obtain ⟨cb,YR,Qz⟩:=hb.comp;obtain ⟨lo,flo,Z2⟩:=ha.outs;obtain ⟨lh,flh,hlh⟩:=hb.T3;have Fh:=xk hh.perm j af (cut j i e) (cut j i' e');have mem: ∀(ok:aq->Bool),(∀f∈fl.filter ok,f∈s.fares)/\(fl.filter ok).length<=60:=λok=>⟨λf hf=>hh.perm.mem_iff.mp (au.mp hf).1,aV (aN _ _) (by rw [hh.perm.length_eq];exact hh.ok.fl)⟩
  refine ⟨_,(am (st 3 g7.nd (aT (pv 1) rfl))
   (am (st 4 g7.nd (aT (pv 2) rfl))
   (am (st 5 g7.nd (pc G1 (hr.mono (by decide)) (ae (pv 3) (ae (pv 4) ax))))
   (am (cF (gc (jM (pv 5)))
    (aA (aY l8))
    bI)
   (am (st 6 g7.nd (bX gd (aT (pv 4) rfl) (aT (pv 3) rfl)))
   (am (st 7 g7.nd (pc G2 (hr.mono (by decide)) (ae (aT (pv 1) rfl) (ae (pv 5) (ae (pv 6) ax)))))
   (am (st 8 g7.nd (pc G2 (hr.mono (by decide)) (ae (aT (pv 2) rfl) (ae (pv 5) (ae (pv 6) ax)))))
   (am (st 9 g7.nd (bK ax))
   (am (ER (dw PassesOwn.never rfl (AX (pv 7)) (kH rfl (cH (gn 10 g7.nd) (cH (gn 11 g7.nd) g8)))
    (aA (ER (dw PassesOwn.never rfl (AX (pv 8)) (kH rfl (cH (gn 12 g7.nd) (cH (gn 13 g7.nd) g8)))
    (aA (cF (eV (pc G3 (hr.mono (by decide)) (ae (pv 0) (ae (pv 10) (ae (pv 12) ax)))))
    (aA (eO (BJ (pv 9) (fM (ae (bX fN (bi cK (pv 11) aE (λ_ _=>rfl)) (bi cK (pv 13) aE (λ_ _=>rfl))) (ae (bi cK (pv 11) aE (λ_ _=>rfl)) (ae (bi cK (pv 13) aE (λ_ _=>rfl)) ax)))))))
    bI)))))))
   (aA (aY (EY rfl hr.units b.min (pv 9))))))))))))),?_⟩
  refine ⟨_,rfl,aH NH ?_⟩;refine ⟨_,rfl,aH YR ?_⟩;refine ⟨_,rfl,_,rfl,ca,cb,s,j,i,e,i',e',B,B',rfl,rm,Qz,?_⟩;refine ⟨_,rfl,_,rfl,?_⟩;cases hE:Ends (cut j i e) (cut j i' e') with
  |none=>
   rw [hE] at Fh;exact q0 H (aB.refl H) Fh
  |some n=>
   rw [hE] at Fh;have hn:n=0∨n=1∨n=2:=by
    rcases vQ (cut j i e) (cut j i' e') with z|z|z|z<;>rw [hE] at z<;>cases z
    ·exact .inl rfl
    ·exact .inr (.inl rfl)
    ·exact .inr (.inr rfl)
   refine ⟨_,rfl,aH Qz.day ⟨_,rfl,aH rm.day ⟨_,_,rfl,rfl,?_⟩⟩⟩;refine ⟨_,rfl,aH flo ⟨_,rfl,_,rfl,lo,s,af,cut j i e,_,n,_,B,rfl,Z2,(mem _).1,hh.ok,hn,(mem _).2,λH1 d1 s1 n1 g1=>?_⟩⟩;refine ⟨_,rfl,aH (flh.mono s1) ⟨_,rfl,_,rfl,lh,s,af,cut j i' e',_,n,_,B',rfl,hlh.mono s1,(mem _).1,hh.ok,hn,(mem _).2,λH2 d2 s2 n2 g2=>?_⟩⟩;obtain ⟨ZA,a1,a2,a3,a4⟩:=g1.mono s2;obtain ⟨ZB,b1,b2,b3,b4⟩:=g2;have MX:d1≠d2:=by
    obtain ⟨_,z,_⟩:=g1;exact aG z n2
   refine ⟨bv _,λlf GW=>?_⟩;have rj:lf≠d1:=(aG a1 GW).symm;have Ta:lf≠d2:=(aG b1 GW).symm;have ZF:H d2=none:=s1.free n2;have s3:aB H2 (upd H2 lf (.lst [])):=aB.new GW;have S9:H lf=none:=(s1.trans s2).free GW;have L0:LR H (upd H2 lf (.lst [])) d1 d2 lf (.dK (qg ZA)) (.dK (qg ZB)) ZA ZB []:=⟨(s1.trans s2).trans s3,s3 _ _ a1,s3 _ _ b1,λz hz=>s3 _ _ (a3 z hz),λz hz=>s3 _ _ (b3 z hz),[],ak,bQ.nil⟩
   refine ⟨d1,_,L0.h1,fy,λod=>?_⟩;have L1:=L0.Ov n1 MX rj (λ_ z=>nomatch z) (.lQ od (.dK (qg ZA)));refine ⟨_,rfl,d1,od,_,rfl,L1.h1,ml (n:=ZA.length) (λm σ H'=>(∃v10 v11 CD O4,σ= [some (.ref h.a),some (.ref oa),some (.ref ob),some (.ref ca),some (.ref cb),some (.int n),some (.int (dayOf (cut j i' e')-dayOf (cut j i e))),some (.ref d1),some (.ref d2),some (.ref lf),v10,v11,CD,O4])/\LR H H' d1 d2 lf (.lQ od (.dK (qg ZA))) (.dK (qg ZB)) ZA ZB (jg s (ZA.take m) ZB))
    ⟨⟨_,_,_,_,rfl⟩,L1⟩ (λm σ H' hm ⟨_,L⟩=>⟨L.h1,by unfold qg;rw [ab];exact hm⟩) (λσ H' ⟨_,L⟩=>⟨L.h1,by unfold qg;rw [ab];exact ay _⟩) ?_ ?_⟩
   ·rintro m σ H3 x H3' hm ⟨⟨v10,v11,CD,O4,rfl⟩,L⟩ ⟨T,ky,v,Fj,rfl,hT,rfl⟩;obtain ⟨z,hz⟩: ∃z,ZA[m]?=some z:=⟨_,ao hm⟩
    have hzm:=aI hz;unfold qg at Fj;rw [br,hz] at Fj;cases Fj;refine ⟨T,_,rfl, .of ak,rfl,_,_,rfl,_,_,rfl,rfl,?_⟩;have L2':=L.mono (aB.new (o:= .tup [.int z.1, .ref z.2.2]) hT);refine ⟨d2,_,L2'.h2,fy,λXr=>?_⟩;have L3:=L2'.Ou ZF MX Ta (λ_ z=>nomatch z) (.lQ Xr (.dK (qg ZB)));refine ⟨_,rfl,d2,Xr,_,rfl,L3.h2,ml (n:=ZB.length) (λk σ H'=>(∃CD O4,σ= [some (.ref h.a),some (.ref oa),some (.ref ob),some (.ref ca),some (.ref cb),some (.int n),some (.int (dayOf (cut j i' e')-dayOf (cut j i e))),some (.ref d1),some (.ref d2),some (.ref lf),some (.int z.1),some (.ref z.2.2),CD,O4])/\LR H H' d1 d2 lf (.lQ od (.dK (qg ZA))) (.lQ Xr (.dK (qg ZB))) ZA ZB (jg s (ZA.take m) ZB++rowOne s z (ZB.take k)))
     ⟨⟨_,_,rfl⟩,(by rw [show jg s (ZA.take m) ZB++rowOne s z (ZB.take 0)=jg s (ZA.take m) ZB from by simp [rowOne]];exact L3)⟩ (λm σ H' hm ⟨_,L⟩=>⟨L.h2,by unfold qg;rw [ab];exact hm⟩) (λσ H' ⟨_,L⟩=>⟨L.h2,by unfold qg;rw [ab];exact ay _⟩) ?_ ?_⟩
    ·rintro k σ H4 x H4' hk ⟨⟨CD,O4,rfl⟩,L⟩ ⟨T2,ky,v,Fj,rfl,Kb,rfl⟩;obtain ⟨y,hy⟩: ∃y,ZB[k]?=some y:=⟨_,ao hk⟩
     have XO:=aI hy;unfold qg at Fj;rw [br,hy] at Fj;cases Fj;refine ⟨T2,_,rfl, .of ak,rfl,_,_,rfl,_,_,rfl,rfl,?_⟩;have L5:=L.mono (aB.new (o:= .tup [.int y.1, .ref y.2.2]) Kb);refine ⟨_,rfl,_,rfl,_,rfl,h,s,fl,z.1,y.1,rfl,hh.mono L5.base,λH5 s5=>⟨_,rfl,?_⟩⟩;have L6:=L5.mono s5;rw [dQ hy,AF];refine iB (λe1=>?_) (λe1=>?_)
     ·rw [if_pos e1];obtain ⟨ps,f1,f2⟩:=L6.UJ;have tz:=L6.ta z hzm;have ty:=L6.tb y XO;refine ⟨_,rfl, .inl ⟨rfl,_, .of f1⟩,_,rfl,z.2.2,_,0,_,rfl,rfl, .of tz,at_of (j:=0) rfl rfl,_,rfl,y.2.2,_,0,_,rfl,rfl, .of ty,at_of (j:=0) rfl rfl,_,_,rfl,rfl,_,rfl,z.2.2,_,1,_,rfl,rfl, .of tz,at_of (j:=1) rfl rfl,_,rfl,y.2.2,_,1,_,rfl,rfl, .of ty,at_of (j:=1) rfl rfl,(by show 3<=sizeLine;decide),λp3 VP=>?_⟩;have L7:=L6.mono (aB.new (o:= .tup [.int (z.2.1.1+y.2.1.1), .int z.2.1.2, .int y.2.1.2]) VP);have f3:=bp (o':= .tup [.int (z.2.1.1+y.2.1.1), .int z.2.1.2, .int y.2.1.2]) f1 (aG f1 VP);refine ⟨lf,_,_,rfl,rfl,f3,?_,⟨_,_,rfl⟩,?_⟩
      ·rw [ab,f2.1,aL];have h1:=uW s ZB (ZA.take m);have h2:=uU s z (ZB.take k);have h3:(ZA.take m).length*ZB.length<=60*60:=Nat.mul_le_mul (by rw [bc];omega) b4;rw [bc] at h2;have:sizeLine=16777216:=adY;omega
      ·have kl: ∀{p:Addr} {xs:List V},(upd H5 p3 (.tup [.int (z.2.1.1+y.2.1.1), .int z.2.1.2, .int y.2.1.2])) p=some (.tup xs)->p≠lf:=λ{p xs} z=>cg z f3 λz=>nomatch z;refine ⟨aB.put L7.base S9,bp L7.h1 rj.symm,bp L7.h2 Ta.symm,λz hz=>bp (L7.ta z hz) (kl (L7.ta z hz)),λz hz=>bp (L7.tb z hz) (kl (L7.tb z hz)),ps++ [p3],?_,?_⟩
       ·rw [ak];exact congrArg (λl=>some (HO.lst l)) (dX ps p3)
       ·rw [<-cq];exact (f2.mono λa c z=>vw z VP (cg z f1 λz=>nomatch z)).snoc (bp ak (aG f1 VP).symm)
     ·rw [if_neg (by rw [e1];exact aJ)];exact ⟨⟨_,_,rfl⟩,L6⟩
    ·rintro σ H4 ⟨⟨CD,O4,rfl⟩,L⟩;rw [bq] at L;refine ⟨L.h2,⟨_,_,_,_,rfl⟩,?_⟩;rw [dQ hz,AG];exact L.Ou ZF MX Ta (λ_ z=>nomatch z) _
   ·rintro σ H3 ⟨⟨v10,v11,CD,O4,rfl⟩,L⟩;rw [bq] at L;refine ⟨L.h1,?_⟩;have L9:=L.Ov n1 MX rj (λ_ z=>nomatch z) (.dK (qg ZA));obtain ⟨ps,f1,f2⟩:=L9.UJ;have hbp:bestPair s j af (cut j i e) (cut j i' e')=least (jg s ZA ZB):=by rw [Fh,zf a2 b2]
    refine ⟨_,rfl,lf,ps,_,rfl, .of f1,f2.mono λ_ _ z=> .of z,λZW=>?_,λk p r hp GU hl=>?_⟩
    ·refine q0 _ L9.base ?_;rw [hbp,dz];have:=f2.1;rw [ZW] at this;exact iz.mp this.symm
    ·obtain ⟨x,hx,RC⟩:=aW.mp (aI GU);obtain ⟨y,hy,e3⟩:=aj.mp RC;have LH:=f2.2 k p r hp GU;subst e3;exact q1 _ p _ _ _ L9.base (by rw [hbp];exact hl) LH
end
end Lf
namespace Lf
open Vbahaf (rowLess least pay cut bestPair bestSingle single)
def PF (a b:Nat):Builtin.bitOr (a:Int) (b:Int)=((a|||b:Nat):Int):=by
 unfold Builtin.bitOr Builtin.bitAnd Builtin.bitNot;rw [decide_eq_false (by omega: ¬(0:Int)<= -(a:Int)-1),decide_eq_false (by omega: ¬(0:Int)<= -(b:Int)-1)];show-(-(((-(-(a:Int)-1)-1).toNat|||(-(-(b:Int)-1)-1).toNat:Nat):Int)-1)-1=_;have e1:(-(-(a:Int)-1)-1).toNat=a:=by omega
 have e2:(-(-(b:Int)-1)-1).toNat=b:=by omega
 rw [e1,e2];omega
def FE (a b:Nat):Builtin.bitAnd (a:Int) (b:Int)=((a&&&b:Nat):Int):=by
 unfold Builtin.bitAnd;rw [decide_eq_true (by omega:(0:Int)<=(a:Int)),decide_eq_true (by omega:(0:Int)<=(b:Int))];rfl
def Ap (a:Nat):uF (a,a)=0:=by unfold uF;exact tM _
def IL (a m:Nat):uF (a,a+m)|||2^(a+m)=uF (a,a+(m+1)):=by
 refine jC λx=>?_;have e0:(uF (a,a+(m+1))).testBit x=jh (a,a+(m+1)) x:=lX (by show a<a+(m+1);omega) x;rw [zU,Nat.testBit_two_pow,e0];have e:(uF (a,a+m)).testBit x=(decide (a<=x)&&decide (x<a+m)):=by
  cases m with
  |zero=>
   rw [ow,Ap,jj];symm;simp
  |succ m=>
   exact lX (by show a<a+(m+1);omega) x
 rw [e];unfold jh;rw [aX];simp;omega
def mB (cs:List (cQ×Int×Option cQ)):Nat:=cs.foldl (λm c=>m|||uF c.1) 0
def Dv (cs:List (cQ×Int×Option cQ)) (c:cQ×Int×Option cQ):mB (cs++ [c])=mB cs|||uF c.1:=by unfold mB;rw [Lr];rfl
def GI (s:ag) (j:ai) (af:Int) (u:Un):mB (j3 s j af u)=eD u:=by
 unfold j3 eD mB;cases u.2 with
 |none=>show 0|||uF u.1=uF u.1;exact WG _
 |some q=>show (0|||uF u.1)|||uF q=_;rw [WG]
def zN (H:Hp) (l:Addr) (cs:List (cQ×Int×Option cQ)):Prop:= ∃ps:List Addr,H l=some (.lst (ps.map V.ref))/\bQ (λp x=>H p=some (.tup ((nO x).map V.int))) ps cs
def uI (K:aa) (C:Addr):Sp:=λvs H Q _=> ∃(x dx l:Addr) (u7:Int) (cs:List (cQ×Int×Option cQ)),vs= [.ref x, .int u7, .ref l]/\H x=some (.ins C dx [])/\zN H l cs/\(∀c∈cs,c.1.1<c.1.2/\c.1.2<=8)/\
 ∀H':Hp,dH x H H'->gM K H' x "paid" (.int u7)->gM K H' x "parts" (.ref l)->gM K H' x "covers" (.int (mB cs:Nat))->Q .fY H'
section
variable {P:adT} {w:adQ} {K:aa} {mg:Str->Option Value} {base:adO} {t:CA}
def C6:bh ["self","paid","parts","part","segment"] ["self","paid","parts"] (aS (inClass (top 85) 0)):=fE
def Q4 (k:Ks K mg t) (b:Bl mg):Cl P w K mg base "Choice" t.Choice 1 ["self","paid","parts"] (uI K t.Choice):=by
 refine k.Choice.cl λf fd F cl=>F.ok C6 (λvs H Q E h=>?_) (λdD A outer s H vs Q E hr h=>?_)
 ·obtain ⟨_,_,_,_,_,rfl,_⟩:=h;rfl
 ·obtain ⟨x,dx,l,u7,cs,rfl,hx,⟨ps,hl,hp⟩,hc,q⟩:=h;refine ⟨_,(am (bW (pv 0) (pv 1) rfl)
   (am (bW (pv 0) (pv 2) rfl)
   (am (bW (pv 0) aE rfl)
   (aA (dw PassesOwn.never rfl (cE (pv 2)) (gn 3 C6.nd)
    (aA (dw PassesOwn.never rfl (iL rfl b.range (ae (bi cK (pv 3) aE (λ_ _=>rfl)) (ae (bX fN (bi cK (pv 3) aE (λ_ _=>rfl)) aE) ax))) (gn 4 C6.nd)
    (aA (bW (pv 0) (bX SZ (aT (pv 0) rfl) (bX y4 aE (pv 4))) rfl))))))))),?_⟩
  refine ⟨_,rfl,_,rfl,sN (DK hx) cl k.sS λH1 h1 b1=>?_⟩;refine ⟨_,rfl,_,rfl,sN h1 cl k.qY λH2 h2 b2=>?_⟩;refine ⟨_,rfl,sN h2 cl k.iU λH3 h3 b3=>?_⟩;have B3:dH x H H3:=(b1.trans b2).trans b3;have nl:l≠x:=cg hl hx λz=>nomatch z;let fx:Int->List (Str×V):=λm=> [("paid", .int u7),("parts", .ref l),("covers", .int m)]
  have h3:H3 x=some (.ins t.Choice dx (fx ((mB (cs.take 0):Nat):Int))):=h3.1;refine ⟨_,rfl,l,rfl,⟨_, .of (B3 _ _ nl hl)⟩,fc (K:=K) (a:=l) (xs:=ps.map V.ref) (λn σ H'=>(∃v3 v4,σ= [some (.ref x),some (.int u7),some (.ref l),v3,v4])/\dH x H H'/\H' x=some (.ins t.Choice dx (fx ((mB (cs.take n):Nat):Int)))) ⟨⟨_,_,rfl⟩,B3,h3⟩ (λn σ H' _ ⟨_,z,_⟩=> .of (z _ _ nl hl)) ?_ ?_⟩
  ·rintro n y σ H4 hy ⟨⟨v3,v4,rfl⟩,B4,h4⟩;obtain ⟨p,Qm,rfl⟩:=b0 hy;obtain ⟨c,nL,pt⟩:=hp.get' Qm;obtain ⟨c1,c2⟩:=hc c (aI nL);have Co:p≠x:=cg pt hx λz=>nomatch z;have p4:=B4 _ _ Co pt;refine ⟨_,rfl,p,_,0,_,rfl,rfl, .of p4,at_of (j:=0) rfl rfl,_,rfl,p,_,1,_,rfl,rfl, .of p4,at_of (j:=1) rfl rfl,_,_,rfl,rfl,_,_,rfl,⟨by omega,by omega,by omega,by omega⟩,?_⟩;refine ia (lo:=(c.1.1:Int)) (λm σ H'=>(∃v4,σ= [some (.ref x),some (.int u7),some (.ref l),some (.ref p),v4])/\dH x H H'/\H' x=some (.ins t.Choice dx (fx ((mB (cs.take n)|||uF (c.1.1,c.1.1+m):Nat):Int)))) ⟨⟨_,rfl⟩,B4,by rw [ow,Ap,Nat.or_zero];exact h4⟩ ?_ ?_
   ·rintro m σ H5 hm ⟨⟨v4,rfl⟩,B5,h5⟩;refine ⟨_,rfl,aH ⟨_,_,_,h5,cl,k.iU,rfl⟩ ⟨_,rfl,_,_,rfl,rfl,⟨by omega,by omega,by decide⟩,_,_,rfl,rfl,_,rfl,x,_,_,_,rfl,h5,cl,k.iU,(by show 3<1000;decide),⟨_,rfl⟩,B5.trans dH.upd,?_⟩⟩;rw [ak];have e1:((c.1.1:Int)+(m:Int)).toNat=c.1.1+m:=by omega
    have e2:(1:Int)*2^((c.1.1:Int)+(m:Int)).toNat=((2^(c.1.1+m):Nat):Int):=by rw [e1,WJ];simp
    show some (HO.ins t.Choice dx (li "covers" (V.int (Builtin.bitOr ((mB (cs.take n)|||uF (c.1.1,c.1.1+m):Nat):Int) ((1:Int)*2^((c.1.1:Int)+(m:Int)).toNat))) (fx ((mB (cs.take n)|||uF (c.1.1,c.1.1+m):Nat):Int))))=_;rw [e2,PF,Nat.or_assoc,IL];rfl
   ·rintro σ H5 ⟨⟨v4,rfl⟩,B5,h5⟩;refine ⟨⟨_,_,rfl⟩,B5,?_⟩;have e:c.1.1+(((c.1.2:Int)-1+1)-(c.1.1:Int)).toNat=c.1.2:=by omega
    rw [e] at h5;rw [dQ nL,Dv];exact h5
  ·rintro σ H4 ⟨⟨v3,v4,rfl⟩,B4,h4⟩;rw [ab,hp.1,bq] at h4;exact q H4 B4 ⟨_,_,_,h4,cl,k.sS,rfl⟩ ⟨_,_,_,h4,cl,k.qY,rfl⟩ ⟨_,_,_,h4,cl,k.iU,rfl⟩
end
end Lf
namespace Lf
open Vbahaf (rowLess least pay cut bestPair bestSingle single)
def gT (K:aa) {X:Cx} {es:List adS} {k:Nat} {t:OV} {n:Nat} {pos:Pos} (hc:X.calm=true) (h:Vc X es t) (hn:(aep es X.env).length=n:=by rfl) (Qj:(aep es X.env).findIdx? (·.1)=none:=by rfl) (hK:X.K=K:=by rfl):PG X (.Tuple es k pos) (UF K n t):=hK▸kH hc h hn Qj
def qa (H:Hp) (l:Addr) (rows:List (List Int)):Prop:= ∃ps:List Addr,H l=some (.lst (ps.map V.ref))/\bQ (λp r=>H p=some (.tup (r.map V.int))) ps rows
def qa.put {H:Hp} {D p:Addr} {ps:List Addr} {rows:List (List Int)} {r:List Int} {xs:List V} (e:xs=r.map V.int) (h1:H D=some (.lst (ps.map V.ref))) (h2:bQ (λp r=>H p=some (.tup (r.map V.int))) ps rows) (hp:H p=none):
  qa (upd (upd H p (.tup xs)) D (.lst (ps.map V.ref++ [.ref p]))) D (rows++ [r]):=by
 refine ⟨ps++ [p],by rw [ak,dX],?_⟩;exact (h2.mono λa b z=>vw z hp (cg z h1 λz=>nomatch z)).snoc (by rw [bL (aG h1 hp).symm,ak,e])
def mx (K:aa) (H:Hp) (B:Addr->Prop) (s:ag) (j:ai) (af:Int) (l:Addr) (us:List Un):Prop:= ∃lR:List Addr,H l=some (.lst (lR.map V.ref))/\bQ (eK K H B s j af) lR us
def mx.mono {K:aa} {H H':Hp} {B:Addr->Prop} {s:ag} {j:ai} {af:Int} {l:Addr} {us:List Un} (h:mx K H B s j af l us) (e:aB H H'):mx K H' B s j af l us:=by
 obtain ⟨lR,h1,h2⟩:=h;exact ⟨lR,e _ _ h1,h2.mono λ_ _ z=>z.mono e⟩
def one (s:ag) (j:ai) (af:Int) (u:Un):List Un:=if (tE s j af u).isSome=true then [u] else []
def BQ {K:aa} {H0 H H2:Hp} {x dx C l:Addr} {u7:Int} {cs:List (cQ×Int×Option cQ)} {s:ag} {j:ai} {af:Int} {u:Un} (nx:H x=none) (tj:H dx=none) (s0:aB H0 H) (n0:H0 l=none) (hP:zN H l cs) (LM:cs=j3 s j af u) (hp:u7=pd s j af u) (hb:(tE s j af u).isSome=true)
  (b:dH x (upd (upd H dx (.own x)) x (.ins C dx [])) H2) (f1:gM K H2 x "paid" (.int u7)) (f2:gM K H2 x "parts" (.ref l)) (f3:gM K H2 x "covers" (.int (mB cs:Nat))):aB H0 H2/\eK K H2 (λb=> ∃o,H0 b=some o) s j af x u:=by
 have sm:=dY (C:=C) nx tj;have s2:aB H H2:=dH.same sm nx b;refine ⟨s0.trans s2,hb,by rw [<-hp];exact f1,?_,by rw [<-GI s j af u, <-LM];exact f3⟩;obtain ⟨ps,h1,h2⟩:=hP;exact ⟨l,ps,(λ⟨o,z⟩=>by rw [n0] at z;cases z),f2,s2 _ _ h1,by rw [<-LM];exact h2.mono λ_ _ z=>s2 _ _ z⟩
def EC (K:aa):Sp:=λvs H Q _=> ∃(s:ag) (fl:List aq) (j:ai) (af:Int) (i e:Nat) (oa:Addr) (B:Addr->Prop),vs= [.ref oa]/\dA K H B s fl j af i e oa/\fl.Perm s.fares/\fl.length<=60/\j.segs.length<=8/\
 ∀(H':Hp) (l:Addr),aB H H'->H l=none->mx K H' (λb=> ∃o,H b=some o) s j af l (one s j af ((i,e),none))->Q (.ref l) H'
def II (K:aa):Sp:=λvs H Q _=> ∃(h:HA) (s:ag) (fl:List aq) (j:ai) (af:Int) (i e i' e':Nat) (oa ob:Addr) (B B':Addr->Prop),vs= [.ref h.a, .ref oa, .ref ob]/\ba K H h s fl/\s.journey=some j/\dA K H B s fl j af i e oa/\dA K H B' s fl j af i' e' ob/\j.segs.length<=8/\
 ∀(H':Hp) (l:Addr),aB H H'->H l=none->mx K H' (λb=> ∃o,H b=some o) s j af l (one s j af ((i,e),some (i',e')))->Q (.ref l) H'
section
variable {P:adT} {w:adQ} {K:aa} {mg:Str->Option Value} {base:adO} {t:CA}
def kZ:bh ["offers","least","component","paid","fare"] ["offers"] (aS (top 86)):=fE
def Kv (D:Dn K mg "single_choices" (top 86) ["offers"]) (b:Bl mg) (c:Cs mg) (G:Cl P w K mg base "Choice" t.Choice 1 ["self","paid","parts"] (uI K t.Choice)):
  Fn P w K mg base "single_choices" 3 ["offers"] (EC K):=by
 refine D.fn λf fd F=>F.ok kZ (λvs H Q E h=>?_) (λdD A outer s H vs Q E hr h=>?_)
 ·obtain ⟨_,_,_,_,_,_,_,_,rfl,_⟩:=h;rfl
 ·obtain ⟨s,fl,j,af,i,e,oa,B,rfl,ho,mD,xf,h8,q⟩:=h;obtain ⟨ls,UR,nb,ps,hl,hp⟩:=ho.singles;obtain ⟨ca,NH,rm⟩:=ho.comp;have hbs:=AZ mD j af (cut j i e);have hlen:(fl.filter λf=>single j af f (cut j i e)).length<=60:=aV (aN _ _) xf;generalize (fl.filter λf=>single j af f (cut j i e))=fs at hp hbs hlen;have zy:tE s j af ((i,e),none)=least (fs.map λf=> [pay s af f (cut j i e),f.key]):=hbs;refine ⟨_,(am (cF (ip (AT (aT (pv 0) rfl) (λ_=>rfl)))
    (aA (aY (bK ax)))
    bI)
   (am (st 1 kZ.nd (d9 (NO rfl hr.units) rfl b.min ii (ae (iD rfl kZ.nd (cE (aT (pv 0) rfl)) (cX (own:= [("paid",3),("fare",4)]) (by kernel_rfl))
    (λ_ _ _ _ _=>(gT K (n:=2) rfl (cH (gn 3 kZ.nd) (cH (gn 4 kZ.nd) g8)))) (λ_ _ _ _ _=>fw)
    (λ_ _ _ _ _=>(fM (ae (pv 3) (ae (eF K (pv 4)) ax))))) ax)))
   (am (st 2 kZ.nd (aT (pv 0) rfl))
   (aA (aY (bK (ae (Ly G (hr.mono (by decide)) (ae (bi cK (pv 1) aE (λ_ _=>rfl)) (ae (bK (ae (fM (ae (aT (pv 2) rfl) (ae (aT (pv 2) rfl) (ae (bi cK (pv 1) aE (λ_ _=>rfl)) (ae (kG c.we) ax))))) ax)) ax))) ax))))))),?_⟩
  refine ⟨_,rfl,aH UR ⟨!(ps.map V.ref).isEmpty, .inl ⟨_, .of hl,rfl⟩,?_⟩⟩;by_cases h0:fs= []
  ·have e0:ps= []:=d4 (by rw [hp.1,h0];rfl);subst e0;refine ⟨bv _,λl rl=>q _ l (aB.new rl) rl ⟨[],ak,?_⟩⟩;unfold one;rw [zy,h0];exact bQ.nil
  ·obtain ⟨p0,rh,e0⟩: ∃p0 rh,ps=p0::rh:=by
    cases ps with
    |nil=>exact absurd (d4 hp.1.symm) h0
    |cons a b=>exact ⟨a,b,rfl⟩
   have e1:(!(!(ps.map V.ref).isEmpty))=false:=by rw [e0];rfl
   rw [e1];refine ⟨_,rfl,aH UR ⟨ls,rfl,⟨_, .of hl⟩,λD hD=>fO (K:=K) (a:=ls) (xs:=ps.map V.ref) (λn H'=>aB H H'/\qa H' D ((fs.take n).map λf=> [pay s af f (cut j i e),f.key])) ⟨aB.new hD,[],ak,bQ.nil⟩ (λn H' _ ⟨sm,_⟩=> .of (sm _ _ hl)) ?_ ?_⟩⟩
   ·rintro n x H1 hx ⟨sm,qs,hq,m6⟩;obtain ⟨p,Qm,rfl⟩:=b0 hx;obtain ⟨f,hf,fa,tp,rT⟩:=hp.get' Qm;refine ⟨p,_,rfl, .of (sm _ _ tp),rfl,_,_,rfl,_,_,rfl,rfl,rfl,?_⟩;refine ⟨_,rfl,_,rfl,aH (rT.mono sm).key ⟨(by show 2<=sizeLine;decide),λp1 DM=>?_⟩⟩;refine ⟨qs.map V.ref,bp hq (aG hq DM),?_,aB.put (sm.trans (aB.new DM)) hD,?_⟩
    ·rw [ab,m6.1,ab,bc];exact cy (aV (du _ _) hlen) (by decide)
    ·rw [dQ hf,aO];exact qa.put rfl hq m6 DM
   ·rintro H1 ⟨s1,qs,hq,m6⟩;rw [ab,hp.1,bq] at m6;refine ⟨D,qs,_,rfl, .of hq,m6.mono λ_ _ z=> .of z,?_,λk p r hk x8 hle=>?_⟩
    ·rw [m6.1,ab];exact j1.mpr h0
    ·have tp:H1 p=some (.tup (r.map V.int)):=m6.2 k p r hk x8;rw [<-zy] at hle;obtain ⟨a,kk,rfl⟩:=gK hle;have YT:pd s j af ((i,e),none)=a:=by unfold pd;rw [hle];rfl
     have YV:k1 s j af ((i,e),none)=kk:=by unfold k1;rw [hle];rfl
     refine ⟨_,rfl,aH (NH.mono s1) ?_⟩;refine ⟨_,rfl,p,_,0,_,rfl,rfl, .of tp,at_of (j:=0) rfl rfl,_,rfl,aH (rm.mono s1).first ⟨_,rfl,aH (rm.mono s1).last ⟨_,rfl,p,_,1,_,rfl,rfl, .of tp,at_of (j:=1) rfl rfl,(by show 4<=sizeLine;decide),λtt OA=>⟨(by show 1<=sizeLine;decide),λlp By=>?_⟩⟩⟩⟩;have nlp:H lp=none:=(s1.trans (aB.new OA)).free By;have eE: [V.int (i:Int), .int ((e:Int)-1), .int kk, .int (-1)]=(nO ((i,e),kk,none)).map V.int:=rfl;have hP:zN (upd (upd H1 tt (.tup [.int (i:Int), .int ((e:Int)-1), .int kk, .int (-1)])) lp (.lst [.ref tt])) lp [((i,e),kk,none)]:=by
      refine ⟨[tt],ak,rfl,λn a b h1 h2=>?_⟩;cases n with
      |zero=>
       cases h1;cases h2;rw [bL (λz=>by rw [z,ak] at By;cases By),ak,eE]
      |succ n=>simp at h1
     refine λx dx nx tj PP=>⟨x,dx,lp,a,[((i,e),kk,none)],rfl,ak,?_,?_,λH3 b3 f1 f2 f3=>⟨rfl,?_⟩⟩
     ·obtain ⟨w1,w2,w3⟩:=hP;exact ⟨w1,dY nx tj _ _ w2,w3.mono λ_ _ z=>dY nx tj _ _ z⟩
     ·intro c hc;have hc:=aP.mp hc;subst hc;have:=rm.ok;exact ⟨this.1,aV this.2 h8⟩
     ·have s0:aB H (upd (upd H1 tt (.tup [.int (i:Int), .int ((e:Int)-1), .int kk, .int (-1)])) lp (.lst [.ref tt])):=(s1.trans (aB.new OA)).trans (aB.new By);obtain ⟨z1,z2⟩:=BQ (K:=K) (s:=s) (j:=j) (af:=af) (u:=((i,e),none)) nx tj s0 nlp hP (by unfold j3;rw [YV]) YT.symm (by rw [hle];rfl) b3 f1 f2 f3;refine ⟨(by show 1<=sizeLine;decide),λl rl=>q _ l (z1.trans (aB.new rl)) (z1.free rl) ⟨[x],ak,?_⟩⟩;unfold one;rw [hle];exact bQ.snoc bQ.nil (z2.mono (aB.new rl))
def oC:bh ["house","out_offers","home_offers","found","out","home","part_out","part_home"] ["house","out_offers","home_offers"] (aS (top 87)):=fE
def Nq (D:Dn K mg "return_choices" (top 87) ["house","out_offers","home_offers"]) (G1:Fn P w K mg base "least_return" 3 ["house","out_offers","home_offers"] (pH K)) (G:Cl P w K mg base "Choice" t.Choice 1 ["self","paid","parts"] (uI K t.Choice)):
  Fn P w K mg base "return_choices" 4 ["house","out_offers","home_offers"] (II K):=by
 refine D.fn λf fd F=>F.ok oC (λvs H Q E h=>?_) (λdD A outer s H vs Q E hr h=>?_)
 ·obtain ⟨_,_,_,_,_,_,_,_,_,_,_,_,_,rfl,_⟩:=h;rfl
 ·obtain ⟨h,s,fl,j,af,i,e,i',e',oa,ob,B,B',rfl,hh,hj,ha,hb,h8,q⟩:=h;obtain ⟨ca,NH,rm⟩:=ha.comp;obtain ⟨cb,YR,Qz⟩:=hb.comp;have zy:tE s j af ((i,e),some (i',e'))=bestPair s j af (cut j i e) (cut j i' e'):=rfl;refine ⟨_,(am (st 3 oC.nd (pc G1 (hr.mono (by decide)) (ae (pv 0) (ae (pv 1) (ae (pv 2) ax)))))
   (am (cF (gc (jM (pv 3)))
    (aA (aY (bK ax)))
    bI)
   (am (st 4 oC.nd (aT (pv 1) rfl))
   (am (st 5 oC.nd (aT (pv 2) rfl))
   (am (st 6 oC.nd (fM (ae (aT (pv 4) rfl) (ae (aT (pv 4) rfl) (ae (bi cK (pv 3) aE (λ_ _=>rfl)) (ae (aT (pv 5) rfl) ax))))))
   (am (st 7 oC.nd (fM (ae (aT (pv 5) rfl) (ae (aT (pv 5) rfl) (ae (bi cK (pv 3) aE (λ_ _=>rfl)) (ae (aT (pv 4) rfl) ax))))))
   (aA (aY (bK (ae (Ly G (hr.mono (by decide)) (ae (bi cK (pv 3) aE (λ_ _=>rfl)) (ae (bK (ae (pv 6) (ae (pv 7) ax))) ax))) ax)))))))))),?_⟩
  refine ⟨_,rfl,_,rfl,_,rfl,h,s,fl,j,af,oa,ob,i,e,i',e',B,B',rfl,hh,hj,ha,hb,λH1 s1 hn=>?_,λH1 p a k m s1 TL tp=>?_⟩
  ·refine ⟨_,rfl,_,rfl,bv _,λl rl=>q _ l (s1.trans (aB.new rl)) (s1.free rl) ⟨[],ak,?_⟩⟩;unfold one;rw [zy,hn];exact bQ.nil
  ·have YT:pd s j af ((i,e),some (i',e'))=a:=by unfold pd;rw [zy,TL];rfl
   have YV:k1 s j af ((i,e),some (i',e'))=k:=by unfold k1;rw [zy,TL];rfl
   have ek2:k2 s j af ((i,e),some (i',e'))=m:=by unfold k2;rw [zy,TL];rfl
   refine ⟨_,rfl,_,rfl,?_⟩;refine ⟨_,rfl,aH (NH.mono s1) ⟨_,rfl,aH (YR.mono s1) ?_⟩⟩;refine ⟨_,rfl,aH (rm.mono s1).first ⟨_,rfl,aH (rm.mono s1).last ⟨_,rfl,p,_,1,_,rfl,rfl, .of tp,at_of (j:=1) rfl rfl,_,rfl,aH (Qz.mono s1).first ⟨(by show 4<=sizeLine;decide),λt1 n1=>?_⟩⟩⟩⟩;have s2:aB H1 (upd H1 t1 (.tup [.int (i:Int), .int ((e:Int)-1), .int k, .int (i':Int)])):=aB.new n1;have io:=s1.trans s2;refine ⟨_,rfl,aH (Qz.mono io).first ⟨_,rfl,aH (Qz.mono io).last ⟨_,rfl,p,_,2,_,rfl,rfl, .of (s2 _ _ tp),at_of (j:=2) rfl rfl,_,rfl,aH (rm.mono io).first ⟨(by show 4<=sizeLine;decide),λt2 n2=>?_⟩⟩⟩⟩;generalize hH2:upd H1 t1 (.tup [.int (i:Int), .int ((e:Int)-1), .int k, .int (i':Int)])=H2 at s2 io n2;have w1:H2 t1=some (.tup [.int (i:Int), .int ((e:Int)-1), .int k, .int (i':Int)]):=by rw [<-hH2];exact ak
   have s3:aB H2 (upd H2 t2 (.tup [.int (i':Int), .int ((e':Int)-1), .int m, .int (i:Int)])):=aB.new n2;have w2:upd H2 t2 (.tup [.int (i':Int), .int ((e':Int)-1), .int m, .int (i:Int)]) t2=some (.tup [.int (i':Int), .int ((e':Int)-1), .int m, .int (i:Int)]):=ak;generalize upd H2 t2 (.tup [.int (i':Int), .int ((e':Int)-1), .int m, .int (i:Int)])=H3 at s3 w2;have w1:=s3 _ _ w1;have wz:=io.trans s3;refine ⟨_,rfl,p,_,0,_,rfl,rfl, .of (s3 _ _ (s2 _ _ tp)),at_of (j:=0) rfl rfl,_,rfl,_,rfl,(by show 2<=sizeLine;decide),λlp By=>?_⟩;have hP:zN (upd H3 lp (.lst [.ref t1, .ref t2])) lp [((i,e),k,some (i',e')),((i',e'),m,some (i,e))]:=by
    refine ⟨[t1,t2],ak,bQ.snoc (as:= [t1]) (bs:= [((i,e),k,some (i',e'))]) (bQ.snoc bQ.nil ?_) ?_⟩
    ·exact bp w1 (aG w1 By)
    ·exact bp w2 (aG w2 By)
   refine λx dx nx tj PP=>⟨x,dx,lp,a,[((i,e),k,some (i',e')),((i',e'),m,some (i,e))],rfl,ak,?_,?_,λH4 b4 f1 f2 f3=>⟨rfl,?_⟩⟩
   ·obtain ⟨v1,v2,v3⟩:=hP;exact ⟨v1,dY nx tj _ _ v2,v3.mono λ_ _ z=>dY nx tj _ _ z⟩
   ·intro c hc;have o1:=rm.ok;have o2:=Qz.ok;rcases aD.mp hc with rfl|hc
    ·exact ⟨o1.1,aV o1.2 h8⟩
    ·have hc:=aP.mp hc;subst hc;exact ⟨o2.1,aV o2.2 h8⟩
   ·obtain ⟨z1,z2⟩:=BQ (K:=K) (s:=s) (j:=j) (af:=af) (u:=((i,e),some (i',e'))) nx tj (wz.trans (aB.new By)) (wz.free By) hP (by unfold j3;rw [YV,ek2]) YT.symm (by rw [zy,TL];rfl) b4 f1 f2 f3;refine ⟨(by show 1<=sizeLine;decide),λl rl=>q _ l (z1.trans (aB.new rl)) (z1.free rl) ⟨[x],ak,?_⟩⟩;unfold one;rw [zy,TL];exact bQ.snoc bQ.nil (z2.mono (aB.new rl))
end
end Lf
namespace Lf
def dh (s:ag) (j:ai) (af:Int) (L:List Un) (i:Nat):List Un:=L.filter λu=>decide (u.1.1=i)&&(tE s j af u).isSome
def Hy (s:ag) (j:ai) (af:Int) (L:List Un) (u:Un) (i:Nat):dh s j af (L++ [u]) i=dh s j af L i++if u.1.1=i then one s j af u else []:=by
 unfold dh one;rw [dq]
 congr 1
 rw [bw];by_cases h:u.1.1=i
 ·rw [if_pos h,decide_eq_true h];rfl
 ·rw [if_neg h,decide_eq_false h];rfl
def MT (s:ag) (j:ai) (af:Int) (u:Un):(one s j af u).length<=1:=by unfold one;split<;>simp
structure fG (K:aa) (H0 H:Hp) (s:ag) (j:ai) (af:Int) (l:Addr) (L:List Un) (ls:List Addr):Prop where
 lst:H l=some (.lst (ls.map V.ref))
 len:ls.length=j.segs.length
 nd:ls.Nodup
 nl:l∉ls
 n0:H0 l=none
 ns: ∀a∈ls,H0 a=none
 at_: ∀i a,ls[i]?=some a->mx K H (λb=>b=l∨b∈ls) s j af a (dh s j af L i)
section
variable {K:aa} {H0 H H1:Hp} {s:ag} {j:ai} {af:Int} {l:Addr} {L:List Un} {ls:List Addr}
def fG.mono (c:fG K H0 H s j af l L ls) (e:aB H H1):fG K H0 H1 s j af l L ls:=
 ⟨e _ _ c.lst,c.len,c.nd,c.nl,c.n0,c.ns,λi a h=>(c.at_ i a h).mono e⟩
def fG.base (c:fG K H0 H s j af l L ls) {H00:Hp} (e:aB H00 H0):fG K H00 H s j af l L ls:=
 ⟨c.lst,c.len,c.nd,c.nl,e.free c.n0,λa h=>e.free (c.ns a h),c.at_⟩
def Fz {u:Un} {a b:Addr} (c:fG K H0 H s j af l L ls) (hL:L.length<10000) (s1:aB H H1) (ha:ls[u.1.1]?=some a) (hb:mx K H1 (λb=> ∃o,H b=some o) s j af b (one s j af u)) (s0:aB H0 H1):
  ∃xs zs,H1 a=some (.lst xs)/\H1 b=some (.lst zs)/\xs.length+zs.length<=sizeLine/\aB H0 (upd H1 a (.lst (xs++zs)))/\fG K H0 (upd H1 a (.lst (xs++zs))) s j af l (L++ [u]) ls:=by
 have hm:a∈ls:=aI ha;obtain ⟨lR,h1,h2⟩:=(c.mono s1).at_ _ _ ha;obtain ⟨cbs,h3,h4⟩:=hb;have nal:l≠a:=λz=>c.nl (by rw [z];exact hm);refine ⟨_,_,h1,h3,?_,aB.put s0 (c.ns a hm),?_⟩
 ·rw [ab,ab,h2.1,h4.1];have g1:(dh s j af L u.1.1).length<=L.length:=aN _ _;have g2:=MT s j af u;have:sizeLine=16777216:=adY;omega
 ·have up:dH a H1 (upd H1 a (.lst (lR.map V.ref++cbs.map V.ref))):=dH.upd;refine ⟨bp (s1 _ _ c.lst) nal,c.len,c.nd,c.nl,c.n0,c.ns,λi a' hi=>?_⟩;rw [Hy];by_cases e:a'=a
  ·subst e;have ei:i=u.1.1:=by
    obtain ⟨q1,q2⟩:=aK.mp hi;exact (sT q1 c.nd).mp (hi.trans ha.symm)
   subst ei;rw [if_pos rfl];refine ⟨lR++cbs,by rw [ak,aO],?_⟩;refine (h2.mono λ_ _ z=>z.but (.inr hm) h1 up).append (h4.mono λ_ _ z=>(z.weak λb hb=>?_).but (.inr hm) h1 up);rcases hb with rfl|hb
   ·exact ⟨_,c.lst⟩
   ·obtain ⟨k,hk⟩:=dL.mp hb;obtain ⟨_,z,_⟩:=c.at_ k _ hk;exact ⟨_,z⟩
  ·have ei: ¬u.1.1=i:=λz=>e (by subst z;rw [ha] at hi;exact (bx hi).symm);rw [if_neg ei,di];obtain ⟨RR,h5,h6⟩:=(c.mono s1).at_ _ _ hi;exact ⟨RR,bp h5 e,h6.mono λ_ _ z=>z.but (.inr hm) h1 up⟩
end
def zW (n:Nat) (m:Nat):List Un:=((oA n n).take m).map λc=>(c,none)
def rK (c:Nat×Nat) (ds:List (Nat×Nat)):List Un:=(ds.filter λd=>decide (c.2<=d.1)).map λd=>(c,some d)
def ET (n:Nat) (m:Nat):List Un:=((oA n n).take m).flatMap λc=>rK c (oA n n)
def IE {n:Nat} (h8:n<=8):(oA n n).length<=64:=aV (yH h8 (ay _)) (by omega)
def tW {n:Nat} (h8:n<=8) (m:Nat):(zW n m).length<=64:=by
 unfold zW;rw [ab,bc];exact aV (du _ _) (IE h8)
def AU (c:Nat×Nat) (ds:List (Nat×Nat)):(rK c ds).length<=ds.length:=by
 unfold rK;rw [ab];exact aN _ _
def gW {α β:Type} {f:α->List β} {k:Nat}: ∀{l:List α},(∀a∈l,(f a).length<=k)->(l.flatMap f).length<=l.length*k
 | [],_=>bv _
 |a::l,h=>by
  rw [bB,aL,aR,tL];have:=h a aM;have:=gW (l:=l) λb hb=>h b (aF _ hb);omega
def ES {n:Nat} (h8:n<=8) (m:Nat):(ET n m).length<=64*64:=by
 unfold ET;have h:=IE h8;refine aV (gW (k:=64) λc _=>aV (AU c _) h) (HR _ ?_);rw [bc];exact aV (du _ _) h
def zc {n:Nat} {u:Un}:u∈zW n (oA n n).length↔HG u/\sW u<=n/\u.2=none:=by
 unfold zW;rw [bq];constructor
 ·intro h;obtain ⟨⟨a,e⟩,hc,rfl⟩:=aj.mp h;have:=oP.mp hc;exact ⟨⟨this.1,λq z=>by cases z⟩,this.2,rfl⟩
 ·rintro ⟨h1,h2,h3⟩;obtain ⟨⟨a,e⟩,o⟩:=u;have h3:o=none:=h3;subst h3;exact aj.mpr ⟨(a,e),oP.mpr ⟨h1.1,h2⟩,rfl⟩
def E9 {n:Nat} {u:Un}:u∈ET n (oA n n).length↔HG u/\sW u<=n/\u.2≠none:=by
 unfold ET rK;rw [bq];constructor
 ·intro h;obtain ⟨⟨a,e⟩,hc,h⟩:=aW.mp h;obtain ⟨⟨a',e'⟩,hd,rfl⟩:=aj.mp h;obtain ⟨hd,hd2⟩:=au.mp hd;have hd2:e<=a':=by simpa using hd2
  have h1:=oP.mp hc;have h2:=oP.mp hd;exact ⟨⟨h1.1,λq z=>by cases z;exact ⟨hd2,h2.1⟩⟩,h2.2,λz=>nomatch z⟩
 ·rintro ⟨h1,h2,h3⟩;obtain ⟨⟨a,e⟩,o⟩:=u;cases o with
  |none=>exact absurd rfl h3
  |some d=>
   obtain ⟨a',e'⟩:=d;have h4:e<=a'/\a'<e':=h1.2 _ rfl;have h5:a<e:=h1.1;have h6:e'<=n:=h2;exact aW.mpr ⟨(a,e),oP.mpr ⟨h5,by omega⟩,aj.mpr ⟨(a',e'),au.mpr ⟨oP.mpr ⟨h4.2,h6⟩,by simpa using h4.1⟩,rfl⟩⟩
def gE {α β:Type} {f:α->β}: ∀{l:List α},(∀a b,f a=f b->a=b)->l.Nodup->(l.map f).Nodup
 | [],_,_=>eT
 |a::l,h,nd=>by
  obtain ⟨n1,n2⟩:=bo.mp nd;rw [be,bo];refine ⟨λz=>?_,gE h n2⟩;obtain ⟨b,hb,e⟩:=aj.mp z;exact n1 (by rw [<-h b a e];exact hb)
def pQ {α β γ:Type} {f:α->List β} {g:β->γ} {k:α->γ}: ∀{l:List α},(∀a, ∀b∈f a,g b=k a)->(∀a b,k a=k b->a=b)->(∀a,(f a).Nodup)->l.Nodup->(l.flatMap f).Nodup
 | [],_,_,_,_=>eT
 |a::l,h,inj,hf,nd=>by
  obtain ⟨n1,n2⟩:=bo.mp nd;rw [bB,gH];refine ⟨hf a,pQ h inj hf n2,λx hx y hy e=>?_⟩;subst e;obtain ⟨b,hb,hy⟩:=aW.mp hy;exact n1 (by rw [inj a b ((h a x hx).symm.trans (h b x hy))];exact hb)
def rC (n m:Nat):(oA n m).Nodup:=by
 unfold oA jI;refine pQ (g:=λc:Nat×Nat=>c.1) (k:=λa=>a) (λa b hb=>?_) (λ_ _ e=>e) (λa=>gE (λx y e=>?_) ug) ug
 ·obtain ⟨k,_,rfl⟩:=aj.mp hb;rfl
 ·have:=(gG e).2;omega
def xE (n:Nat):(zW n (oA n n).length).Nodup:=by
 unfold zW;rw [bq];exact gE (λa b e=>(gG e).1) (rC n n)
def Gv (n:Nat):(ET n (oA n n).length).Nodup:=by
 unfold ET rK;rw [bq];refine pQ (g:=λu:Un=>u.1) (k:=λa=>a) (λa b hb=>?_) (λ_ _ e=>e) (λa=>gE (λx y e=>?_) ((rC n n).filter _)) (rC n n)
 ·obtain ⟨k,_,rfl⟩:=aj.mp hb;rfl
 ·exact bx (gG e).2
def lE (n:Nat):List Un:=zW n (oA n n).length++ET n (oA n n).length
def FA (s:ag) (j:ai) (af:Int):jY s j af true (dh s j af (zW j.segs.length (oA j.segs.length j.segs.length).length)) where
 mem i u:=by
  unfold dh;rw [au,zc];simp only [aU,decide_eq_true_eq];constructor
  ·rintro ⟨⟨a,b,c⟩,d,e⟩;exact ⟨d,a,b,e,λ_=>c⟩
  ·rintro ⟨d,a,b,e,c⟩;exact ⟨⟨a,b,c trivial⟩,d,e⟩
 nd i:=(xE _).filter _
def lB (s:ag) (j:ai) (af:Int):jY s j af false (dh s j af (lE j.segs.length)) where
 mem i u:=by
  unfold dh lE;rw [au,bG,zc,E9];simp only [aU,decide_eq_true_eq];constructor
  ·rintro ⟨⟨a,b,c⟩|⟨a,b,c⟩,d,e⟩<;>exact ⟨d,a,b,e,λz=>by cases z⟩
  ·rintro ⟨d,a,b,e,c⟩;refine ⟨?_,d,e⟩;by_cases z:u.2=none
   ·exact .inl ⟨a,b,z⟩
   ·exact .inr ⟨a,b,z⟩
 nd i:=by
  unfold dh lE;refine Vs _ (gH.mpr ⟨xE _,Gv _,λx hx y hy e=>?_⟩);subst e;exact (E9.mp hy).2.2 (zc.mp hx).2.2
end Lf
namespace Lf
def iQ (K:aa) (H0 H:Hp) (s:ag) (j:ai) (af:Int) (l:Addr) (L:List Un):Prop:= ∃ls,fG K H0 H s j af l L ls
def yK (K:aa):Sp:=λvs H Q _=> ∃(h:HA) (s:ag) (fl:List aq) (j:ai) (af:Int) (lo:Addr) (B:Addr->Prop),vs= [.ref h.a, .ref lo]/\ba K H h s fl/\s.journey=some j/\yn K H B s fl j af lo/\
 ∀(H':Hp) (l:Addr),aB H H'->iQ K H H' s j af l (zW j.segs.length (oA j.segs.length j.segs.length).length)->Q (.ref l) H'
section
variable {P:adT} {w:adQ} {K:aa} {mg:Str->Option Value} {base:adO} {t:CA}
def qy:bh ["house","offered","choices","offers","segment"] ["house","offered"] (aS (top 88)):=fE
def KH (D:Dn K mg "find_singles" (top 88) ["house","offered"]) (G:Fn P w K mg base "single_choices" 3 ["offers"] (EC K)):
  Fn P w K mg base "find_singles" 4 ["house","offered"] (yK K):=by
 refine D.fn λf fd F=>F.ok qy (λvs H Q E h=>?_) (λdD A outer s H vs Q E hr h=>?_)
 ·obtain ⟨_,_,_,_,_,_,_,rfl,_⟩:=h;rfl
 ·obtain ⟨h,s,fl,j,af,lo,B,rfl,hh,hj,⟨os,ho,Bv⟩,q⟩:=h;obtain ⟨ja,fj,GQ⟩:=hh.dS hj;obtain ⟨Bq,l,as,RG,Fp,hl,hs,_⟩:=GQ;have h8:j.segs.length<=8:=(hh.ok.jo j hj).ge;have xf:fl.length<=60:=by rw [hh.perm.length_eq];exact hh.ok.fl
  refine ⟨_,(am (qB (i:=2) rfl qy.nd rfl rfl (tR rfl rfl rfl rfl) (cE (aT (aT (pv 0) rfl) rfl)) (cX (own:= [("segment",4)]) (by kernel_rfl))
    (λ_ _ _ _ _=>(gn 4 qy.nd)) (λ_ _ _ _ _=>fw)
    (λ_ _ _ _ _=>(bK ax)))
   (am (dw PassesOwn.never rfl (cE (pv 1)) (gn 3 qy.nd)
    (aA (eO (D0 (bi aZ (pv 2) (aT (aT (pv 3) rfl) rfl) (λ_ _=>rfl)) (pc G (hr.mono (by decide)) (ae (pv 3) ax))))))
   (aA (aY (pv 2))))),?_⟩
  refine ⟨_,rfl,aH fj (aH Fp ⟨l,rfl,⟨_, .of hl⟩,λD hD=>fO (K:=K) (a:=l) (xs:=as.map V.ref) (λn H'=>aB H H'/\∃ls:List Addr,H' D=some (.lst (ls.map V.ref))/\ls.length=n/\ls.Nodup/\D∉ls/\∀a∈ls,H a=none/\H' a=some (.lst [])) ⟨aB.new hD,[],ak,rfl,eT,gQ,λa z=>nomatch z⟩ (λn H' _ ⟨sm,_⟩=> .of (sm _ _ hl)) ?_ ?_⟩)⟩
  ·rintro n x H1 hx ⟨s1,ls,V8,hlen,nd,nD,Uf⟩;have hn:n<8:=by
    have:=(aK.mp hx).1;rw [ab,hs.1] at this;omega
   refine ⟨rfl,bv _,λa na=>?_⟩;have XD:D≠a:=aG V8 na;refine ⟨ls.map V.ref,bp V8 XD,?_,aB.put (s1.trans (aB.new na)) hD,ls++ [a],?_,?_,?_,?_,?_⟩
   ·rw [ab,hlen];exact ou hn (by decide)
   ·rw [ak,dX]
   ·rw [aL,hlen];rfl
   ·rw [gH];refine ⟨nd,bo.mpr ⟨gQ,eT⟩,λx hx y hy e=>?_⟩;have:=aP.mp hy;subst e this;rw [(Uf _ hx).2] at na;cases na
   ·intro z;rcases bG.mp z with z|z
    ·exact nD z
    ·exact XD (aP.mp z)
   ·intro b hb;rcases bG.mp hb with z|z
    ·have:=Uf b z;exact ⟨this.1,vw this.2 na λe=>nD (by rw [<-e];exact z)⟩
    ·have:=aP.mp z;subst this;exact ⟨s1.free na,bp ak XD.symm⟩
  ·rintro H1 ⟨s1,ls,V8,hlen,nd,nD,Uf⟩;rw [ab,hs.1] at hlen;have C0:fG K H H1 s j af D (zW j.segs.length 0) ls:=⟨V8,hlen,nd,nD,hD,λa z=>(Uf a z).1,λi a z=>⟨[],(Uf a (aI z)).2,bQ.nil⟩⟩
   refine ⟨_,rfl,lo,rfl,⟨_, .of (s1 _ _ ho)⟩,fc (K:=K) (a:=lo) (xs:=os.map V.ref) (λn σ H'=>(∃v3 v4,σ= [some (.ref h.a),some (.ref lo),some (.ref D),v3,v4])/\aB H H'/\fG K H H' s j af D (zW j.segs.length n) ls) ⟨⟨_,_,rfl⟩,s1,C0⟩ (λn σ H' _ ⟨_,sm,_⟩=> .of (sm _ _ ho)) ?_ ?_⟩
   ·rintro n x σ H2 hx ⟨⟨v3,v4,rfl⟩,s2,C2⟩;obtain ⟨o,Ye,rfl⟩:=b0 hx;obtain ⟨c,hc,S6⟩:=Bv.get' Ye;obtain ⟨ca,NH,cat⟩:=S6.comp;have hi:c.1<ls.length:=by
     have:=cat.ok;rw [hlen];omega
    obtain ⟨a,ha⟩: ∃a,ls[c.1]?=some a:=⟨_,ao hi⟩
    obtain ⟨lR,rm,_⟩:=C2.at_ _ _ ha;refine ⟨_,rfl,_,rfl,aH (NH.mono s2) (aH (cat.mono s2).first ⟨D,_,(c.1:Int),_,rfl,rfl, .of C2.lst,at_of (j:=c.1) rfl (bC ha), .inl ⟨rfl,_, .of rm⟩,?_⟩)⟩;refine ⟨_,rfl,s,fl,j,af,c.1,c.2,o,B,rfl,S6.mono s2,hh.perm,xf,h8,λH3 b s3 nb hb=>?_⟩;obtain ⟨xs,zs,e1,e2,e3,e4,e5⟩:=Fz (u:=(c,none)) C2 (cy (tW h8 n) (by decide)) s3 ha hb (s2.trans s3);refine ⟨a,b,xs,zs,rfl,rfl,e1,e2,e3,⟨_,_,rfl⟩,e4,?_⟩;have eu:zW j.segs.length (n+1)=zW j.segs.length n++ [(c,none)]:=by unfold zW;rw [dQ hc,aO];rfl
    rw [eu];exact e5
   ·rintro σ H2 ⟨⟨v3,v4,rfl⟩,s2,C2⟩;refine ⟨_,rfl,q H2 D s2 ⟨ls,?_⟩⟩;rw [ab,Bv.1] at C2;exact C2
end
end Lf
namespace Lf
def tT (K:aa):Sp:=λvs H Q _=> ∃(h:HA) (s:ag) (fl:List aq) (j:ai) (af:Int),vs= [.ref h.a, .int af]/\ba K H h s fl/\s.journey=some j/\(0<=af/\af<=4)/\
 ∀(H':Hp) (l:Addr),aB H H'->iQ K H H' s j af l (lE j.segs.length)->Q (.ref l) H'
def Gs (c:Nat×Nat) (ds:List (Nat×Nat)) (d:Nat×Nat):rK c (ds++ [d])=if c.2<=d.1 then rK c ds++ [(c,some d)] else rK c ds:=by
 unfold rK;rw [dq,aO,bw];by_cases h:c.2<=d.1
 ·rw [if_pos h,decide_eq_true h];rfl
 ·rw [if_neg h,decide_eq_false h];simp
def Oe:Sp:=λvs H Q _=> ∃m:Nat,vs= [.int m]/\m≠0/\Q (.int (low m)) H
def FO (K:aa) (Hc H:Hp) (s:ag) (j:ai) (af:Int) (l:Addr) (us:List Un):Prop:= ∃lR:List Addr,H l=some (.lst (lR.map V.ref))/\bQ (eK K Hc (λ_=>False) s j af) lR us
def qv (K:aa):Sp:=λvs H Q _=> ∃(H0 Hc:Hp) (s:ag) (j:ai) (af:Int) (l:Addr) (L:List Un) (m:Nat),vs= [.ref l, .int m]/\iQ K H0 Hc s j af l L/\aB Hc H/\L.length<10000/\m≠0/\m<2^j.segs.length/\
 ∀(H':Hp) (r:Addr),aB H H'->H r=none->FO K Hc H' s j af r (jr (dh s j af L) eD m)->Q (.ref r) H'
section
variable {P:adT} {w:adQ} {K:aa} {mg:Str->Option Value} {base:adO} {t:CA}
def k5:bh ["house","kind","offered","choices","offers","component","later"] ["house","kind"] (aS (top 89)):=fE
def KI (D:Dn K mg "find_choices" (top 89) ["house","kind"]) (G1:Fn P w K mg base "find_offers" 7 ["house","kind"] (lY K)) (G2:Fn P w K mg base "find_singles" 4 ["house","offered"] (yK K)) (G3:Fn P w K mg base "return_choices" 4 ["house","out_offers","home_offers"] (II K)):
  Fn P w K mg base "find_choices" 8 ["house","kind"] (tT K):=by
 refine D.fn λf fd F=>F.ok k5 (λvs H Q E h=>?_) (λdD A outer s H vs Q E hr h=>?_)
 ·obtain ⟨_,_,_,_,_,rfl,_⟩:=h;rfl
 ·obtain ⟨h,s,fl,j,af,rfl,hh,hj,hk,q⟩:=h;have h8:j.segs.length<=8:=(hh.ok.jo j hj).ge;refine ⟨_,(am (st 2 k5.nd (pc G1 (hr.mono (by decide)) (ae (pv 0) (ae (pv 1) ax))))
   (am (st 3 k5.nd (pc G2 (hr.mono (by decide)) (ae (pv 0) (ae (pv 2) ax))))
   (am (dw PassesOwn.never rfl (cE (pv 2)) (gn 4 k5.nd)
    (am (st 5 k5.nd (aT (pv 4) rfl))
   (aA (dw PassesOwn.never rfl (cE (pv 2)) (gn 6 k5.nd)
    (aA (cF (cD A7 (aT (aT (pv 6) rfl) rfl) (aT (pv 5) rfl) (bR _))
    (aA (eO (D0 (bi aZ (pv 3) (aT (pv 5) rfl) (λ_ _=>rfl)) (pc G3 (hr.mono (by decide)) (ae (pv 0) (ae (pv 4) (ae (pv 6) ax)))))))
    bI))))))
   (aA (aY (pv 3)))))),?_⟩
  refine ⟨_,rfl,_,rfl,h,s,fl,j,af,rfl,hh,hj,hk,λH1 lo s1 nlo VQ=>?_⟩;refine ⟨_,rfl,_,rfl,h,s,fl,j,af,lo,_,rfl,hh.mono s1,hj,VQ,λH2 D s2 hC=>?_⟩;obtain ⟨os,ho,Bv⟩:=VQ;obtain ⟨ls,C⟩:=hC;have io:=s1.trans s2;refine ⟨_,rfl,lo,rfl,⟨_, .of (s2 _ _ ho)⟩,fc (K:=K) (a:=lo) (xs:=os.map V.ref) (λm σ H'=>(∃v4 v5 v6,σ= [some (.ref h.a),some (.int af),some (.ref lo),some (.ref D),v4,v5,v6])/\aB H1 H'/\fG K H1 H' s j af D (zW j.segs.length (oA j.segs.length j.segs.length).length++ET j.segs.length m) ls) ⟨⟨_,_,_,rfl⟩,s2,by unfold ET;simpa using C⟩ (λm σ H' _ ⟨_,sm,_⟩=> .of (sm _ _ ho)) ?_ ?_⟩
  ·rintro m x σ H3 hx ⟨⟨v4,v5,v6,rfl⟩,s3,C3⟩;obtain ⟨o,Ye,rfl⟩:=b0 hx;obtain ⟨c,hc,S6⟩:=Bv.get' Ye;obtain ⟨ca,NH,cat⟩:=S6.comp;refine ⟨_,rfl,aH (NH.mono s3) ?_⟩;refine ⟨_,rfl,lo,rfl,⟨_, .of (s3 _ _ ho)⟩,fc (K:=K) (a:=lo) (xs:=os.map V.ref) (λk σ H'=>(∃v6,σ= [some (.ref h.a),some (.int af),some (.ref lo),some (.ref D),some (.ref o),some (.ref ca),v6])/\aB H1 H'/\fG K H1 H' s j af D ((zW j.segs.length (oA j.segs.length j.segs.length).length++ET j.segs.length m)++rK c ((oA j.segs.length j.segs.length).take k)) ls) ⟨⟨_,rfl⟩,s3,by simpa [rK] using C3⟩ (λm σ H' _ ⟨_,sm,_⟩=> .of (sm _ _ ho)) ?_ ?_⟩
   ·rintro k x σ H4 hx ⟨⟨v6,rfl⟩,s4,C4⟩;obtain ⟨o',Yd,rfl⟩:=b0 hx;obtain ⟨d,hd,S5⟩:=Bv.get' Yd;obtain ⟨ca',YS,Q5⟩:=S5.comp;refine ⟨_,rfl,aH (YS.mono s4) (aH (Q5.mono s4).first ⟨_,rfl,aH (cat.mono s4).last ⟨_,_,rfl,rfl,_,rfl,?_⟩⟩)⟩;rw [dQ hd,Gs];by_cases G0:c.2<=d.1
    ·refine dT (by omega) ?_;rw [if_pos G0];have hi:c.1<ls.length:=by
      have:=cat.ok;rw [C4.len];omega
     obtain ⟨a,ha⟩: ∃a,ls[c.1]?=some a:=⟨_,ao hi⟩
     obtain ⟨lR,rm,_⟩:=C4.at_ _ _ ha;refine ⟨_,rfl,_,rfl,aH (cat.mono s4).first ⟨D,_,(c.1:Int),_,rfl,rfl, .of C4.lst,at_of (j:=c.1) rfl (bC ha), .inl ⟨rfl,_, .of rm⟩,?_⟩⟩;refine ⟨_,rfl,_,rfl,_,rfl,h,s,fl,j,af,c.1,c.2,d.1,d.2,o,o',_,_,rfl,hh.mono (s1.trans s4),hj,S6.mono s4,S5.mono s4,h8,λH5 b s5 nb hb=>?_⟩;have hlen:((zW j.segs.length (oA j.segs.length j.segs.length).length++ET j.segs.length m)++rK c ((oA j.segs.length j.segs.length).take k)).length<10000:=by
      rw [aL,aL];have g1:=tW h8 (oA j.segs.length j.segs.length).length;have g2:=ES h8 m;have g3:=AU c ((oA j.segs.length j.segs.length).take k);have g4:=IE h8;rw [bc] at g3;omega
     obtain ⟨xs,zs,e1,e2,e3,e4,e5⟩:=Fz (u:=(c,some d)) C4 hlen s5 ha hb (s4.trans s5);refine ⟨a,b,xs,zs,rfl,rfl,e1,e2,e3,⟨_,rfl⟩,e4,?_⟩;rw [<-cq];exact e5
    ·refine dF (by omega) ?_;rw [if_neg G0];exact ⟨⟨_,rfl⟩,s4,C4⟩
   ·rintro σ H4 ⟨⟨v6,rfl⟩,s4,C4⟩;refine ⟨⟨_,_,_,rfl⟩,s4,?_⟩;rw [ab,Bv.1,bq] at C4;have eu:ET j.segs.length (m+1)=ET j.segs.length m++rK c (oA j.segs.length j.segs.length):=by unfold ET;rw [dQ hc,cc];simp
    rw [eu, <-cq];exact C4
  ·rintro σ H3 ⟨⟨v4,v5,v6,rfl⟩,s3,C3⟩;rw [ab,Bv.1] at C3;exact ⟨_,rfl,q H3 D (s1.trans s3) ⟨ls,C3.base s1⟩⟩
def C5:bh ["mask","digit"] ["mask"] (aS (top 90)):=fE
def QJ (D:Dn K mg "lowest_digit" (top 90) ["mask"]):Fn P w K mg base "lowest_digit" 1 ["mask"] Oe:=by
 refine D.fn λf fd F=>F.ok C5 (λvs H Q E h=>?_) (λdD A outer s H vs Q E hr h=>?_)
 ·obtain ⟨_,rfl,_⟩:=h;rfl
 ·obtain ⟨m,rfl,hm,q⟩:=h;have Nf:=nF hm;refine ⟨_,(am (st 1 C5.nd aE)
   (am (u0 PassesOwn.never (cD gg (bX y6 (bX JA (pv 0) (pv 1)) aE) aE (bR _))
    (aA (st 1 C5.nd (bX fN (pv 1) aE))))
   (aA (aY (pv 1))))),?_⟩
  refine ⟨λk σ H'=> ∃d:Nat,k+d=low m/\σ= [some (.int m),some (.int d)]/\H'=H,⟨low m,0,by omega,rfl,rfl⟩,?_⟩;rintro k σ H' ⟨d,hd,rfl,rfl⟩;refine ⟨_,rfl,_,rfl,_,_,rfl,rfl,by omega,_,_,rfl,rfl,rfl,_,rfl,?_⟩;have e1:Builtin.bitAnd ((m:Int)/2^((d:Int)).toNat) 1=if m.testBit d=true then 1 else 0:=by
   rw [bitAnd_m1];have e2:((d:Int)).toNat=d:=by omega
   rw [e2];have e3:(m:Int)/2^d=((m/2^d:Nat):Int):=by simp
   rw [e3,Nat.testBit_eq_decide_div_mod_eq];by_cases h:m/2^d%2=1
   ·rw [decide_eq_true h,if_pos rfl];omega
   ·rw [decide_eq_false h,if_neg aJ];omega
  by_cases hk:k=0
  ·have e4:d=low m:=by omega
   refine LO (by rw [e1,e4,Nf.1];decide) ?_;rw [e4];exact ⟨_,rfl,q⟩
  ·refine eqT (by rw [e1,Nf.2 d (by omega)];rfl) ?_;exact ⟨λeX Rf=>eX= [some (.int m),some (.int ((d:Int)+1))]/\Rf=H',λeX Rf ⟨a,b⟩=>⟨k-1,by omega,d+1,by omega,by rw [a];simp,b⟩,_,rfl,_,_,rfl,rfl,rfl,rfl⟩
def rF:bh ["choices","mask","choice"] ["choices","mask"] (aS (top 91)):=fE
def G9 (D:Dn K mg "choices_within" (top 91) ["choices","mask"]) (G:Fn P w K mg base "lowest_digit" 1 ["mask"] Oe):Fn P w K mg base "choices_within" 2 ["choices","mask"] (qv K):=by
 refine D.fn λf fd F=>F.ok rF (λvs H Q E h=>?_) (λdD A outer s H vs Q E hr h=>?_)
 ·obtain ⟨_,_,_,_,_,_,_,_,rfl,_⟩:=h;rfl
 ·obtain ⟨H0,Hc,s,j,af,l,L,m,rfl,⟨ls,C⟩,LM,hL,hm,Qn,q⟩:=h;have rl:low m<ls.length:=by
   rw [C.len];have h1:=(nF hm).1;have h2:=Aa h1;exact (Nat.pow_lt_pow_iff_right (by decide)).mp (cy h2 Qn)
  obtain ⟨a,ha⟩: ∃a,ls[low m]?=some a:=⟨_,ao rl⟩
  obtain ⟨lR,rm,nL⟩:=C.at_ _ _ ha;have rm:=LM _ _ rm;refine ⟨_,(aA (aY (iD rfl rF.nd (cE (bi aZ (pv 0) (pc G (hr.mono (by decide)) (ae (pv 1) ax)) (λ_ _=>rfl))) (cX (own:= [("choice",2)]) (by kernel_rfl))
    (λ_ _ _ _ _=>(gn 2 rF.nd)) (λ_ _ _ _ _=>(oG (cD gg (bX y6 (eF K (pv 2)) (pv 1)) (eF K (pv 2)) (bR _))))
    (λ_ _ _ _ _=>(pv 2))))),?_⟩
  refine ⟨_,rfl,_,rfl,m,rfl,hm,l,_,(low m:Nat),_,rfl,rfl, .of (LM _ _ C.lst),at_of (j:=low m) rfl (bC ha),a,rfl,⟨_, .of rm⟩,λD hD=>fO (K:=K) (a:=a) (xs:=lR.map V.ref) (λn H'=>aB H H'/\∃qs:List Addr,H' D=some (.lst (qs.map V.ref))/\bQ (eK K Hc (λ_=>False) s j af) qs (((dh s j af L (low m)).take n).filter λu=>decide (eD u&&&m=eD u))) ⟨aB.new hD,[],ak,bQ.nil⟩ (λn H' _ ⟨sm,_⟩=> .of (sm _ _ rm)) ?_ ?_⟩
  ·rintro n x H1 hx ⟨s1,qs,hq,m6⟩;obtain ⟨ca,hc,rfl⟩:=b0 hx;obtain ⟨u,hu,cat⟩:=nL.get' hc;refine ⟨rfl,_,rfl,aH (cat.mono (LM.trans s1)).vX ⟨_,rfl,_,_,rfl,rfl,_,rfl,aH (cat.mono (LM.trans s1)).vX ⟨rfl,_,rfl,?_⟩⟩⟩;rw [dQ hu,dq,bw];by_cases RL:eD u&&&m=eD u
   ·refine eqT (a:=Builtin.bitAnd ((eD u:Nat):Int) (m:Int)) (by rw [FE,RL]) ?_;refine ⟨_,rfl,qs.map V.ref,hq,?_,aB.put s1 hD,qs++ [ca],by rw [ak,dX],?_⟩
    ·rw [ab,m6.1];have g1:=aN (λu=>decide (eD u&&&m=eD u)) ((dh s j af L (low m)).take n);have g2:((dh s j af L (low m)).take n).length<=L.length:=by
      rw [bc];exact aV (du _ _) (aN _ _)
     have:sizeLine=16777216:=adY;omega
    ·rw [decide_eq_true RL];exact m6.snoc (cat.weak λ_ z=>z.elim)
   ·refine LO (a:=Builtin.bitAnd ((eD u:Nat):Int) (m:Int)) (by rw [FE];omega) ?_;rw [decide_eq_false RL];exact ⟨s1,qs,hq,by simpa using m6⟩
  ·rintro H1 ⟨s1,qs,hq,m6⟩;rw [ab,nL.1,bq] at m6;exact q H1 D s1 hD ⟨qs,hq,m6⟩
end
end Lf
namespace Lf
open Vbahaf (rowLess least)
def p8 (H:Hp) (v:V) (o:Option (List Int)):Prop:=match o with
 |none=>v= .fY
 |some r=> ∃p,v= .ref p/\H p=some (.tup (r.map V.int))
def p8.mono {H H':Hp} {v:V} {o:Option (List Int)} (h:p8 H v o) (s:aB H H'):p8 H' v o:=by
 cases o with
 |none=>exact h
 |some r=>
  obtain ⟨p,e,h⟩:=h;exact ⟨p,e,s _ _ h⟩
def p8.put {H:Hp} {l:Addr} {v:V} {o:Option (List Int)} {xs ys:List V} (h:p8 H v o) (hl:H l=some (.lst xs)):p8 (upd H l (.lst ys)) v o:=by
 cases o with
 |none=>exact h
 |some r=>
  obtain ⟨p,e,h⟩:=h;exact ⟨p,e,bp h (cg h hl λz=>nomatch z)⟩
def iO (H:Hp) (l:Addr) (S:Nat->Option (List Int)) (M:Nat):Prop:= ∃xs:List V,H l=some (.lst xs)/\xs.length=M/\∀(i:Nat) (v:V),xs[i]?=some v->p8 H v (S i)
def iO.mono {H H':Hp} {l:Addr} {S:Nat->Option (List Int)} {M:Nat} (h:iO H l S M) (s:aB H H'):iO H' l S M:=by
 obtain ⟨xs,h1,h2,h3⟩:=h;exact ⟨xs,s _ _ h1,h2,λi v z=>(h3 i v z).mono s⟩
def iO.snoc {H:Hp} {l:Addr} {S:Nat->Option (List Int)} {M:Nat} {xs:List V} {v:V} (h1:H l=some (.lst xs)) (h2:xs.length=M) (h3: ∀(i:Nat) (v:V),xs[i]?=some v->p8 H v (S i)) (hv:p8 H v (S M)):iO (upd H l (.lst (xs++ [v]))) l S (M+1):=by
 refine ⟨_,ak,by rw [aL,h2];rfl,λi y hy=>?_⟩;by_cases hi:i<xs.length
 ·rw [bV hi] at hy;exact (h3 i y hy).put h1
 ·rw [cA (by omega)] at hy;have Ys:i=M:=by
   have:=(aK.mp hy).1;simp only [aR,cU] at this;omega
  subst Ys;rw [<-h2,tM] at hy;cases hy;exact hv.put h1
def yN (n:Nat):(1:Int)*2^((n:Int)).toNat=((2^n:Nat):Int):=by
 have e:((n:Int)).toNat=n:=by omega
 rw [e,WJ];simp
def Jn {n:Nat} (h:n<=8):2^n<=256:=aV (d6 (by decide) h) (by decide)
def Two (S:Nat->Option (List Int)):Prop:= ∀i r,S i=some r->∃a b,r= [a,b]
def rD (K:aa):Sp:=λvs H Q _=> ∃(ca la:Addr) (u:Un) (S:Nat->Option (List Int)) (M m:Nat) (s:ag) (j:ai) (af:Int) (B:Addr->Prop),vs= [.ref ca, .ref la, .int m]/\eK K H B s j af ca u/\iO H la S M/\Two S/\eD u<=m/\m-eD u<M/\
 ∀(H':Hp) (v:V),aB H H'->p8 H' v ((S (m-eD u)).map (jU (pd s j af u) (cn u)))->Q v H'
def iP (s:ag) (j:ai) (af:Int) (L:List Un) (m:Nat):Option (List Int):=Sm (dh s j af L) eD (pd s j af) cn m
def pD (s:ag) (j:ai) (af:Int) (L:List Un):Two (iP s j af L):=λ_ _ h=>jV h
def CW (K:aa):Sp:=λvs H Q _=> ∃(H0:Hp) (s:ag) (j:ai) (af:Int) (l:Addr) (L:List Un) (al:Bool),vs= [.ref l]/\iQ K H0 H s j af l L/\L.length<10000/\j.segs.length<=8/\jY s j af al (dh s j af L)/\
 ∀(H':Hp) (r:Addr),aB H H'->H r=none->iO H' r (iP s j af L) (2^j.segs.length)->Q (.ref r) H'
def MH (s:ag) (j:ai) (af:Int) (u:Un):((j3 s j af u).length:Int)=cn u:=by unfold j3 cn;cases u.2<;>rfl
def qj {ch:Nat->List Un} {m:Nat} {u:Un} (h:u∈jr ch eD m):eD u<=m:=by
 have:=(au.mp h).2;have e:eD u&&&m=eD u:=by simpa using this
 rw [<-e];exact N5
section
variable {P:adT} {w:adQ} {K:aa} {mg:Str->Option Value} {base:adO} {t:CA}
def EM:bh ["choice","sums","mask","rest"] ["choice","sums","mask"] (aS (top 93)):=fE
def Nn (D:Dn K mg "sum_with" (top 93) ["choice","sums","mask"]) (b:Bl mg):Fn P w K mg base "sum_with" 1 ["choice","sums","mask"] (rD K):=by
 refine D.fn λf fd F=>F.ok EM (λvs H Q E h=>?_) (λdD A outer s H vs Q E hr h=>?_)
 ·obtain ⟨_,_,_,_,_,_,_,_,_,_,rfl,_⟩:=h;rfl
 ·obtain ⟨ca,la,u,S,M,m,s,j,af,B,rfl,hc,⟨xs,hl,hlen,hS⟩,two,RL,hm,q⟩:=h;obtain ⟨lp,ps,_,DT,By,gL⟩:=hc.parts;obtain ⟨v,hv⟩: ∃v,xs[m-eD u]?=some v:=⟨_,ao (by omega)⟩
  have sv:=hS _ _ hv;refine ⟨_,(am (st 3 EM.nd (bi aZ (pv 1) (bX gd (pv 2) (aT (pv 0) rfl)) (λ_ _=>rfl)))
   (am (cF (gc (jM (pv 3)))
    (aA (aY l8))
    bI)
   (aA (aY (fM (ae (bX fN (bi cK (pv 3) aE (λ_ _=>rfl)) (aT (pv 0) rfl)) (ae (bX fN (bi cK (pv 3) aE (λ_ _=>rfl)) (i4 b.len (aT (pv 0) rfl))) ax))))))),?_⟩
  refine ⟨_,rfl,_,rfl,_,rfl,aH hc.vX ⟨_,_,rfl,rfl,la,_,_,_,rfl,rfl, .of hl,at_of (j:=m-eD u) (by omega) hv,?_⟩⟩;cases e:S (m-eD u) with
  |none=>
   rw [e] at sv q;have sv:v= .fY:=sv;subst sv;exact ⟨_,rfl,_,rfl,q H .fY (aB.refl H) rfl⟩
  |some r=>
   obtain ⟨x,y,rfl⟩:=two _ _ e;rw [e] at sv q;obtain ⟨p,rfl,tp⟩:=sv;refine ⟨_,rfl,_,rfl,?_⟩;refine ⟨_,rfl,p,_,0,_,rfl,rfl, .of tp,at_of (j:=0) rfl rfl,_,rfl,aH hc.u7 ⟨_,_,rfl,rfl,_,rfl,p,_,1,_,rfl,rfl, .of tp,at_of (j:=1) rfl rfl,_,rfl,aH DT ⟨lp,_,rfl, .inl (.of By),_,_,rfl,rfl,(by show 2<=sizeLine;decide),λt1 n1=>?_⟩⟩⟩;refine q _ _ (aB.new n1) ⟨t1,rfl,?_⟩;rw [ak,ab,gL.1,MH];rfl
def lZ:bh ["choices","sums","mask","found","choice","one"] ["choices"] (aS (top 94)):=fE
def NA (D:Dn K mg "least_sums" (top 94) ["choices"]) (b:Bl mg) (G1:Fn P w K mg base "choices_within" 2 ["choices","mask"] (qv K)) (G2:Fn P w K mg base "sum_with" 1 ["choice","sums","mask"] (rD K)):
  Fn P w K mg base "least_sums" 3 ["choices"] (CW K):=by
 refine D.fn λf fd F=>F.ok lZ (λvs H Q E h=>?_) (λdD A outer s H vs Q E hr h=>?_)
 ·obtain ⟨_,_,_,_,_,_,_,rfl,_⟩:=h;rfl
 ·obtain ⟨H0,s,j,af,l,L,al,rfl,hC,hL,h8,hI,q⟩:=h;obtain ⟨ls,C⟩:=hC;obtain ⟨N,hN⟩: ∃N,N=2^j.segs.length:=⟨_,rfl⟩
  have hN8:N<=256:=by rw [hN];exact Jn h8
  have hN1:1<=N:=by rw [hN];exact Lq
  rw [<-hN] at q;have Ui:(ls.map V.ref).length<=8:=by rw [ab,C.len];exact h8
  have QP:(1:Int)*2^(((ls.map V.ref).length:Nat):Int).toNat=(N:Int):=by rw [yN,ab,C.len,hN]
  refine ⟨_,(am (st 1 lZ.nd (bK (ae (fM (ae aE (ae aE ax))) ax)))
   (am (dw PassesOwn.never rfl (iL rfl b.range (ae aE (ae (bX y4 aE (i4 b.len (pv 0))) ax))) (gn 2 lZ.nd)
    (am (qB (i:=3) rfl lZ.nd rfl rfl (tR rfl rfl rfl rfl) (cE (pc G1 (hr.mono (by decide)) (ae (pv 0) (ae (pv 2) ax)))) (cX (own:= [("choice",4)]) (by kernel_rfl))
    (λ_ _ _ _ _=>(gn 4 lZ.nd)) (λ_ _ _ _ _=>fw)
    (λ_ _ _ _ _=>(pc G2 (hr.mono (by decide)) (ae (pv 4) (ae (pv 1) (ae (pv 2) ax))))))
   (aA (eO (BJ (pv 1) (EY rfl hr.units b.min (iD rfl lZ.nd (cE (pv 3)) (cX (own:= [("one",5)]) (by kernel_rfl))
    (λ_ _ _ _ _=>(gn 5 lZ.nd)) (λ_ _ _ _ _=>(oG (gc (E1 (pv 5)))))
    (λ_ _ _ _ _=>(pv 5)))))))))
   (aA (aY (pv 1))))),?_⟩
  refine ⟨(by show 2<=sizeLine;decide),λt0 n0=>⟨(by show 1<=sizeLine;decide),λl1 rj=>?_⟩⟩;have s1:aB H (upd (upd H t0 (.tup [.int 0, .int 0])) l1 (.lst [.ref t0])):=(aB.new n0).trans (aB.new rj);have nl:H l1=none:=(aB.new n0).free rj;have S0:iO (upd (upd H t0 (.tup [.int 0, .int 0])) l1 (.lst [.ref t0])) l1 (iP s j af L) 1:=by
   refine ⟨_,ak,rfl,λi v hv=>?_⟩;cases i with
   |zero=>
    cases hv;unfold iP;rw [zL];exact ⟨t0,rfl,bp ak λe=>by rw [e,ak] at rj;cases rj⟩
   |succ i=>simp at hv
  generalize (upd (upd H t0 (.tup [.int 0, .int 0])) l1 (.lst [.ref t0]))=H1 at s1 S0;refine ⟨_,rfl,l,_,rfl, .inl (.of (s1 _ _ C.lst)),_,_,rfl,rfl,⟨by omega,by omega,by decide⟩,_,_,rfl,?_,?_⟩
  ·rw [QP];exact ⟨by omega,by omega,by omega,by omega⟩
  ·refine ia (lo:=1) (λk σ H'=>(∃v2 v3 v4 v5,σ= [some (.ref l),some (.ref l1),v2,v3,v4,v5])/\aB H H'/\iO H' l1 (iP s j af L) (k+1)) ⟨⟨_,_,_,_,rfl⟩,s1,S0⟩ ?_ ?_
   ·rintro k σ H2 hk ⟨⟨v2,v3,v4,v5,rfl⟩,s2,S2⟩;rw [QP] at hk;have em:(1:Int)+(k:Int)=((k+1:Nat):Int):=by omega
    rw [em];refine ⟨_,rfl,_,rfl,H0,H,s,j,af,l,L,k+1,rfl,⟨ls,C⟩,s2,hL,by omega,by rw [<-hN];omega,λH3 r s3 nr zY=>?_⟩;obtain ⟨lR,xc,nL⟩:=zY;have C3:aB H H3:=s2.trans s3;refine ⟨r,rfl,⟨_, .of xc⟩,λD hD=>fO (K:=K) (a:=r) (xs:=lR.map V.ref) (λn H'=>aB H3 H'/\∃ys:List V,H' D=some (.lst ys)/\bQ (p8 H') ys (((jr (dh s j af L) eD (k+1)).take n).map λu=>(iP s j af L (k+1-eD u)).map (jU (pd s j af u) (cn u)))) ⟨aB.new hD,[],ak,bQ.nil⟩ (λn H' _ ⟨sm,_⟩=> .of (sm _ _ xc)) ?_ ?_⟩
    ·rintro n x H4 hx ⟨s4,ys,hy,LB⟩;obtain ⟨ca,rm,rfl⟩:=b0 hx;obtain ⟨u,hu,cat⟩:=nL.get' rm;have LC:=aI hu;refine ⟨rfl,_,rfl,_,rfl,_,rfl,ca,l1,u,_,k+1,k+1,s,j,af,_,rfl,cat.mono (C3.trans s4),S2.mono (s3.trans s4),pD s j af L,qj LC,qk hI.ok LC,λH5 v s5 hv=>?_⟩;refine ⟨ys,s5 _ _ hy,?_,aB.put (s4.trans s5) hD,ys++ [v],ak,?_⟩
     ·rw [LB.1,ab,bc];have g:(jr (dh s j af L) eD (k+1)).length<=L.length:=aV (aN _ _) (aN _ _);have:sizeLine=16777216:=adY;omega
     ·rw [dQ hu,aO];exact (LB.mono λ_ _ z=>(z.mono s5).put (s5 _ _ hy)).snoc (hv.put (s5 _ _ hy))
    ·rintro H4 ⟨s4,ys,hy,LB⟩;rw [ab,nL.1,bq] at LB;obtain ⟨xs,HX,qJ,Oz⟩:=S2.mono (s3.trans s4);refine ⟨_,rfl, .inl ⟨rfl,_, .of HX⟩,_,rfl,D,rfl,⟨_, .of hy⟩,λD2 RN=>fO (K:=K) (a:=D) (xs:=ys) (λn H'=>aB H4 H'/\qa H' D2 ((((jr (dh s j af L) eD (k+1)).map λu=>(iP s j af L (k+1-eD u)).map (jU (pd s j af u) (cn u))).take n).filterMap id)) ⟨aB.new RN,[],ak,bQ.nil⟩ (λn H' _ ⟨sm,_⟩=> .of (sm _ _ hy)) ?_ ?_⟩
     ·rintro n y H5 VJ ⟨s5,ps,hp,gL⟩;obtain ⟨o,ho,sv⟩:=LB.get' VJ;rw [dQ ho,i8];cases o with
      |none=>
       have sv:y= .fY:=sv;subst sv;refine ⟨rfl,_,rfl,_,rfl,?_⟩;refine ⟨s5,ps,hp,by simpa using gL⟩
      |some r0=>
       obtain ⟨p,rfl,tp⟩:=sv;refine ⟨rfl,_,rfl,_,rfl,?_⟩;refine ⟨_,rfl,ps.map V.ref,hp,?_,aB.put s5 RN,ps++ [p],by rw [ak,dX],?_⟩
       ·rw [ab,gL.1];have g0:=List.length_filterMap_le id ((((jr (dh s j af L) eD (k+1)).map λu=>(iP s j af L (k+1-eD u)).map (jU (pd s j af u) (cn u))).take n));rw [bc,ab] at g0;have g:(jr (dh s j af L) eD (k+1)).length<=L.length:=aV (aN _ _) (aN _ _);have:sizeLine=16777216:=adY;omega
       ·exact (gL.mono λa b z=>bp z (cg z hp λz=>nomatch z)).snoc (bp (s5 _ _ tp) (cg (s5 _ _ tp) hp λz=>nomatch z))
     ·rintro H5 ⟨s5,ps,hp,gL⟩;rw [LB.1,bq,Ie] at gL;have eS:iP s j af L (k+1)=least ((jr (dh s j af L) eD (k+1)).filterMap (id∘λu=>(iP s j af L (k+1-eD u)).map (jU (pd s j af u) (cn u)))):=FG hI.ok (by omega);have VM:=s5 _ _ HX;have hz:xs.length<sizeLine:=by
       have:sizeLine=16777216:=adY;omega
      have hS5: ∀(i:Nat) (v:V),xs[i]?=some v->p8 H5 v (iP s j af L i):=λi v z=>(Oz i v z).mono s5;have Zt:aB H H5:=(C3.trans s4).trans s5;refine ⟨D2,ps,_,rfl, .of hp,gL.mono λ_ _ z=> .of z,λe0=>?_,λi p r0 hpi Cq hle=>?_⟩
      ·refine ⟨l1,xs, .fY,rfl,rfl,VM,hz,⟨_,_,_,_,rfl⟩,aB.put Zt nl,iO.snoc VM qJ hS5 ?_⟩;have e1:((jr (dh s j af L) eD (k+1)).filterMap (id∘λu=>(iP s j af L (k+1-eD u)).map (jU (pd s j af u) (cn u))))= []:=d4 (by rw [<-gL.1,e0];rfl);rw [eS,e1];rfl
      ·refine ⟨l1,xs, .ref p,rfl,rfl,VM,hz,⟨_,_,_,_,rfl⟩,aB.put Zt nl,iO.snoc VM qJ hS5 ?_⟩;rw [eS,hle];exact ⟨p,rfl,gL.2 i p r0 hpi Cq⟩
   ·rintro σ H2 ⟨⟨v2,v3,v4,v5,rfl⟩,s2,S2⟩;rw [QP] at S2;refine ⟨_,rfl,q H2 l1 s2 nl ?_⟩;have e:((N:Int)-1).toNat+1=N:=by omega
    rw [e] at S2;exact S2
end
end Lf
namespace Lf
open Sem (wp)
open AutoSeq1 (wpAny_loadPart')
section
variable {prog:adT} {w:adQ} {A:adW} {E:Value->adN->Prop} {s:adN}
def ut (a v:Value):checkTypeCall "enumerate" ⟨[a],[(Str.ofString "start",v)]⟩=pure ():=by kernel_rfl
def wY (a v:Value):afa "enumerate.__new__" ⟨[.type "enumerate",a],[(Str.ofString "start",v)]⟩=pure ():=by kernel_rfl
def Ed (a b v:Value):ael "object.__init__" ⟨[a,b],[(Str.ofString "start",v)]⟩:=by
 unfold ael;rw [signature?_of (id:= "object.__init__") (n:= ['_','_','t','i','n','i','_','_']) (o:= ['t','c','e','j','b','o']) (by kernel_rfl) F.owner_object];kernel_rfl
def rN {self a v:Value}:
  Meets (ad9.«object.__init__» ⟨[self,a],[(Str.ofString "start",v)]⟩) (λ_ R s=>s.TypeIs self "enumerate"/\R (.ok (.ret .none)) s):=by
 refine Meets.of_wp λprog w A R s hs=>?_;obtain ⟨hT,hq⟩:=hs;have hl:=F.slot_enumerate_init.lookup;have hm:=F.called_enumerate.made;have gp:(some "enumerate.__new__" !=some "object.__new__")=true:=by decide
 repeat (any_goals (first|assumption|wp_step))
 exact ⟨_,rfl,hq⟩
def xj {T newId DL:String} {Bn Bi:ad9} {args:List Value} {kw:List (Str×Value)} {S:PySem.Spec} {Q Q₁:Value->adN->Prop} (ft:TypeCalled T newId DL)
  (hct:checkTypeCall T ⟨args,kw⟩=pure ()) (hcn:afa newId ⟨.type T::args,kw⟩=pure ())
  (QQ:entryFor table newId=some Bn) (QR:entryFor table DL=some Bi) (g:Meets (Bn ⟨.type T::args,kw⟩) S)
  (h:S A.in1 (wants Q₁ E) s)
  (Ub: ∀obj dG,Q₁ obj dG->dG.TypeIs obj T/\ael DL ⟨obj::args,kw⟩/\∃Si,Meets (Bi ⟨obj::args,kw⟩) Si/\Si A.in1 (wants (λr kF=>r= .none/\Q obj kF) E) dG):
  wpAny (adR prog w) A (call (.type T) args kw) Q E s:=by
 obtain ⟨c,tl,ab2⟩:=ft.mro;have Z1:=ft.made;have Qi:=ft.sub;refine ae1 (codeAny_of_tree ?_);show wpAny _ _ (callAny (.type T) _) _ _ _;refine adV ⟨Code.quiet_builtin _ (by decide+kernel),aeB F.entry_type_call ?_⟩;rw [Around.under_plain (weight_type_call_type T args kw) (units_type_call_type T args kw)];have h1:=ft.notType;have h2:=ft.canCreate
 repeat (any_goals (first|assumption|wp_step))
 refine aey (ae9 ft.plain QQ (ae6 hcn (g prog w A.in1 _ s h))) λr dG hr=>?_;cases r with
 |error e=>exact hr
 |ok fl=>
  cases fl with
  |ret obj=>
   obtain ⟨hT,cO,Si,gi,hsi⟩:=Ub _ _ hr;have hli:=ft.init.lookup;have V3:=ft.init.bind obj
   repeat (any_goals (first|assumption|wp_step))
   refine aey (ae9 ft.init.plain QR (ft.init.check _ _ _ _ _ _ _ _ hT cO (gi prog w A.in1 _ dG hsi))) λW4 kF JT=>?_;cases W4 with
   |error e=>exact JT
   |ok UP=>
    cases UP with
    |ret r=>
     obtain ⟨rfl,hq⟩:=JT
     repeat (any_goals (first|assumption|wp_step))
    |_=>exact JT.elim
  |_=>exact hr.elim
def Hr (l:Addr) (items:Array Value) (n:Nat) (Y3:Option Addr) (sl:Array (Option Value)) (t:Tok):
  Meets (ad9.«enumerate.__new__» ⟨[.type "enumerate", .ref l],[(Str.ofString "start", .int 1 t)]⟩) (λ_ R s=>s.heap.get? l=some {cls:= .type "list",dict:=Y3,data:= .seq items n,slots:=sl}/\
   R (.ok (.ret (.ref (s.heap.push {cls:= .type "list_iterator",data:= .fields #[.ref l, .int 0 0]}).objs.size)))
    {s with heap:=(s.heap.push {cls:= .type "list_iterator",data:= .fields #[.ref l, .int 0 0]}).push {cls:= .type "enumerate",data:= .fields #[.none, .bool false, .ref s.heap.objs.size,rawInt 1, .none, .none]}}):=
 .of_wp λprog w A R s h=>by
  obtain ⟨hp,g,d,tk,os⟩:=s;obtain ⟨hl,h⟩:=h;have Qi:=sub_enumerate;have hL:Heap.IsList (Shared.heap ⟨hp,g,d,tk,os⟩) l items:=⟨_,hl,rfl,n,rfl⟩
  wp_walk using wpAny_loadPart' hl
  refine wpAny_stack_any λst=>adV ?_;split
  ·rename_i c _ _ _ _ _
   cases (c==Value.type "enumerate")
   ·wp_walk using wpAny_loadPart' hl,aex hL
    exact ⟨_,rfl,h⟩
   ·wp_walk using wpAny_loadPart' hl,aex hL
    exact ⟨_,rfl,h⟩
  ·wp_walk using wpAny_loadPart' hl,aex hL
   exact ⟨_,rfl,h⟩
end
end Lf
namespace Lf
open Sem (wp)
section
variable {prog:adT} {w:adQ} {A:adW} {E:Value->adN->Prop} {s:adN}
def Eb {l:Addr} {items:Array Value} {t:Tok} {Q:Value->adN->Prop} (hL:s.heap.IsList l items)
  (h: ∀h',aee h' (s.heap.objs.size+1) s.heap.objs.size 1 .none->h'.IsListIter s.heap.objs.size l 0->h'.objs.size=s.heap.objs.size+2->
   (∀b o,s.heap.get? b=some o->h'.get? b=some o)->Q (.ref (s.heap.objs.size+1)) {s with heap:=h'}):
  wpAny (adR prog w) A (call (.type "enumerate") [.ref l] [(Str.ofString "start", .int 1 t)]) Q E s:=by
 obtain ⟨⟨c,Y3,dt,sl⟩,hl,hc,n,hd⟩:=hL;replace hc:c= .type "list" :=hc;replace hd:dt= .seq items n:=hd;subst hc hd;refine xj (Q₁:=λobj dG=>dG.TypeIs obj "enumerate"/\Q obj dG) F.called_enumerate (ut _ _) (wY _ _) F.entry_enumerate_new F.entry_object_init
  (Hr l items n Y3 sl t) ⟨hl,?_⟩ λobj _ hq=>⟨hq.1,Ed obj _ _,_,rN,hq.1,rfl,hq.2⟩
 have hz:(s.heap.push {cls:= .type "list_iterator",data:= .fields #[.ref l, .int 0 0]}).objs.size=s.heap.objs.size+1:=Heap.size_push ..;show _/\_;rw [hz];have he:aee ((s.heap.push {cls:= .type "list_iterator",data:= .fields #[.ref l, .int 0 0]}).push
   {cls:= .type "enumerate",data:= .fields #[.none, .bool false, .ref s.heap.objs.size,rawInt 1, .none, .none]}) (s.heap.objs.size+1) s.heap.objs.size 1 .none:=by
  rw [<-hz];exact Heap.get?_push_size _ rfl
 refine ⟨⟨_,he,rfl⟩,h _ he ⟨_,Heap.get?_push_of_some _ (Heap.get?_push_size _ rfl),rfl,rfl⟩ (by rw [Heap.size_push,hz]) λb o hb=>Heap.get?_push_of_some _ (Heap.get?_push_of_some _ hb)⟩
def DZ {e it l:Addr} {k:Nat} {i:Int} {items:Array Value} {x old:Value} {Q:Value->adN->Prop}
  (he:aee s.heap e it i old) (hit:s.heap.IsListIter it l k) (hl:s.heap.IsList l items) (hx:items[k]?=some x) (gp:e≠it)
  (hQ: ∀h',IsEnumOut h' e it (i+1) x s.heap.objs.size->h'.IsListIter it l (k+1)->
   h'.get? s.heap.objs.size=some {cls:= .type "tuple",data:= .seq #[.int i s.toks,x]}->h'.objs.size=s.heap.objs.size+1->
   (∀b o,b≠e->b≠it->s.heap.get? b=some o->h'.get? b=some o)->Q (.ref s.heap.objs.size) {s with heap:=h',toks:=s.toks+1}):
  wpAny (adR prog w) A (ad9.«enumerate.__next__» ⟨[.ref e],[]⟩) (λfin s'=> ∃v,fin= .done (.ret v)/\Q v s') E s:=by
 obtain ⟨hp,g,d,tk,os⟩:=s;show wpAny _ _ (field (.ref e) 2>>=_) _ _ _;refine adP (aeM he rfl (x:= .ref it) rfl ?_);refine adP (wpAny_nextOf_list_item hit hl hx λpU JZ x4=>?_);replace x4:Heap.SameBut it hp pU:=x4;have Fo:aee pU e it i old:=(x4.2 e gp).trans he;show wpAny _ _ (field (.ref e) 3>>=_) _ _ ⟨pU,g,d,tk,os⟩;refine adP (aeM Fo rfl (x:=rawInt i) rfl ?_);show wpAny _ _ (field (.ref e) 4>>=_) _ _ ⟨pU,g,d,tk,os⟩;refine adP (aeM Fo rfl (x:= .none) rfl ?_);show wpAny _ _ (mkInt i>>=_) _ _ ⟨pU,g,d,tk,os⟩;refine adP (wpAny_mkInt ?_);show wpAny _ _ (setField (.ref e) 3 (rawInt (i+1))>>=_) _ _ ⟨pU,g,d,tk+1,os⟩;refine adP (aeW Fo (by simp) λvC Fm xZ=>?_);replace xZ:Heap.SameBut e pU vC:=xZ;replace Fm:aee vC e it (i+1) old:=Fm;show wpAny _ _ (setField (.ref e) 4 .none>>=_) _ _ ⟨vC,g,d,tk+1,os⟩;refine adP (aeW Fm (by simp) λtu Fl xY=>?_);replace xY:Heap.SameBut e vC tu:=xY;replace Fl:aee tu e it (i+1) old:=Fl;show wpAny _ _ (newTuple [.int i tk,x] >>=_) _ _ ⟨tu,g,d,tk+1,os⟩;refine adP (wpAny_newTuple ?_);have Fk:aee (tu.push {cls:= .type "tuple",data:= .seq #[.int i tk,x]}) e it (i+1) old:=Heap.get?_push_of_some _ Fl;generalize Bz:tu.push {cls:= .type "tuple",data:= .seq #[.int i tk,x]}=Bu at Fk;have hsz:tu.objs.size=hp.objs.size:=by rw [xY.1,xZ.1,x4.1]
 have Ni:e<hp.objs.size:=Heap.lt_size he;have TJ:Bu.get? hp.objs.size=some {cls:= .type "tuple",data:= .seq #[.int i tk,x]}:=by rw [<-Bz, <-hsz];exact Heap.get?_push_size _ rfl
 have Tx:Bu.objs.size=hp.objs.size+1:=by rw [<-Bz,Heap.size_push,hsz]
 have Uk: ∀b o,b≠e->b≠it->hp.get? b=some o->Bu.get? b=some o:=λb o DP V3 hb=>by
  rw [<-Bz];exact Heap.get?_push_of_some _ (xY.extBut b o DP (xZ.extBut b o DP (x4.extBut b o V3 hb)))
 have Qs:Bu.IsListIter it l (k+1):=by
  rw [<-Bz];obtain ⟨o,ho,r⟩:=(JZ.extBut xZ.extBut (fz gp)).extBut xY.extBut (fz gp);exact ⟨o,Heap.get?_push_of_some _ ho,r⟩
 show wpAny _ _ (Builtin.SmallTypes.ownedTupleIsFree (.ref e)>>=_) _ _ ⟨Bu,g,d,tk+1,os⟩;rw [hsz];clear Bz Fl xY Fm xZ Fo x4 JZ hsz tu vC pU;refine adP ?_
 ·unfold Builtin.SmallTypes.ownedTupleIsFree;refine adP (aeM Fk rfl (x:= .none) rfl (adV ?_));simp only [if_true];refine adP (aeV ?_);refine adP (aeM Fk rfl (x:=old) rfl ?_);refine adP (aeW Fk (by simp) λGS J5 xX=>?_);replace xX:Heap.SameBut e Bu GS:=xX;replace J5:aee GS e it (i+1) x:=J5;show wpAny _ _ (Builtin.SmallTypes.ownedTupleHandOut (.ref e) (.ref hp.objs.size)>>=_) _ _ ⟨GS,g,d,tk+1,os⟩;refine adP ?_
  ·unfold Builtin.SmallTypes.ownedTupleHandOut;refine adP (aeW J5 (by simp) λQe J4 xW=>?_);replace xW:Heap.SameBut e GS Qe:=xW;replace J4:IsEnumOut Qe e it (i+1) x hp.objs.size:=J4;refine aeW J4 (by simp) λQc J3 xV=>?_;replace xV:Heap.SameBut e Qe Qc:=xV;replace J3:IsEnumOut Qc e it (i+1) x hp.objs.size:=J3;refine adP (aeC (adV ⟨_,rfl,hQ Qc J3 ?_ ?_ ?_ ?_⟩))
   ·exact ((Qs.extBut xX.extBut (fz gp)).extBut xW.extBut (fz gp)).extBut xV.extBut (fz gp)
   ·exact xV.extBut _ _ (gZ Ni) (xW.extBut _ _ (gZ Ni) (xX.extBut _ _ (gZ Ni) TJ))
   ·rw [xV.1,xW.1,xX.1,Tx]
   ·exact λb o DP V3 hb=>xV.extBut b o DP (xW.extBut b o DP (xX.extBut b o DP (Uk b o DP V3 hb)))
def y1 {e it l:Addr} {k:Nat} {i:Int} {items:Array Value} {x old:Value} {Q:Option Value->adN->Prop}
  (he:aee s.heap e it i old) (hit:s.heap.IsListIter it l k) (hl:s.heap.IsList l items) (hx:items[k]?=some x) (gp:e≠it)
  (hQ: ∀h',IsEnumOut h' e it (i+1) x s.heap.objs.size->h'.IsListIter it l (k+1)->
   h'.get? s.heap.objs.size=some {cls:= .type "tuple",data:= .seq #[.int i s.toks,x]}->h'.objs.size=s.heap.objs.size+1->
   (∀b o,b≠e->b≠it->s.heap.get? b=some o->h'.get? b=some o)->Q (some (.ref s.heap.objs.size)) {s with heap:=h',toks:=s.toks+1}):
  wpAny (adR prog w) A (aef (.ref e)) Q E s:=by
 have hT:s.TypeIs (.ref e) "enumerate" :=⟨_,he,rfl⟩
 unfold aef;exact adP (wpAny_attempt (afc (name:=Str.ofString "__next__") hT F.slot_enumerate_next
  (afd F.slot_enumerate_next hT F.entry_enumerate_next
   (DZ he hit hl hx gp λh' a b c d k=>adV (hQ h' a b c d k)) (F.args_enumerate_next_1 _))))
def sX {e it l:Addr} {k:Nat} {i:Int} {items:Array Value} {old:Value} {Q:Option Value->adN->Prop} (hh:A.handled=none)
  (he:aee s.heap e it i old) (hit:s.heap.IsListIter it l k) (hl:s.heap.IsList l items) (hx:items[k]?=none)
  (hQ: ∀h',Heap.ExtBut it s.heap h'->Q none {s with heap:=h'}):wpAny (adR prog w) A (aef (.ref e)) Q E s:=by
 have hT:s.TypeIs (.ref e) "enumerate" :=⟨_,he,rfl⟩
 unfold aef;refine adP (wpAny_attempt (afc (name:=Str.ofString "__next__") hT F.slot_enumerate_next
  (afd F.slot_enumerate_next hT F.entry_enumerate_next ?_ (F.args_enumerate_next_1 _))))
 show wpAny _ _ (field (.ref e) 2>>=_) _ _ _;refine adP (aeM he rfl (x:= .ref it) rfl ?_);refine adP (wpAny_nextOf_list_end hh hit hl hx λh' x Qx JR=>?_);obtain ⟨o,ho,hc⟩:=JR;refine adP (wpAny_isInstance (T:= "StopIteration") (b:=true) ⟨o,ho,hc⟩ isSubtype_stop ?_);exact adV (hQ _ Qx)
end
def Zi (K:aa) (a:Addr):It:=
 ⟨λi H=> ∃(xs:List V) (x:V),iF K H a xs/\xs[i]?=some x,λi H v H'=> ∃T x,v= .ref T/\H T=none/\H'=upd H T (.tup [.int ((i:Int)+1),x])/\∀xs,iF K H a xs->xs[i]?=some x,λi H=> ∃xs:List V,iF K H a xs/\xs.length<=i⟩
def CJ {P:adT} {w:adQ} {K:aa} {elts:List adS} {kk:Nat} {mU:Pos} (a e it:Addr):
  Turn P w K (.Tuple elts kk mU) (Zi K a) [e,it] e (λi h=>(∃old,aee h e it (((i:Nat):Int)+1) old)/\h.IsListIter it a i/\e≠it) where
 mem:=by simp
 obj:=λi h st b hb=>by
  obtain ⟨⟨old,he⟩,⟨o,ho,hc,hd⟩,_⟩:=st;have e':b=e∨b=it:=by simpa using hb
  rcases e' with z|z
  ·rw [z];exact ⟨_,he,λv q=>nomatch q⟩
  ·rw [z];exact ⟨o,ho,λv q=>by rw [hd] at q;cases q⟩
 keep:=λi h h' st k=>let ⟨⟨old,he⟩,hi,gp⟩:=st;⟨⟨old,k e (by simp) _ he⟩,hi.at λo q=>k it (by simp) o q,gp⟩
 item:=by
  intro X hP hw hK hc i pins s σ H E I hf st hg;subst hP hw hK;obtain ⟨⟨old,he⟩,hit,gp⟩:=st;obtain ⟨xs,x,hq,hx⟩:=hg;obtain ⟨its,rv,p,hz⟩:=I.list hq;obtain ⟨u,hu,ru⟩:=rv.get hx;have Ni:e<s.heap.objs.size:=Heap.lt_size he;have Yr:it<s.heap.objs.size:=by obtain ⟨_,q,_⟩:=hit;exact Heap.lt_size q
  refine y1 he hit p.isList (x:=u) (by simpa using hu) gp λh' ho Qt hT hsz hk=>?_;refine ⟨_,rfl,afe (s:={s with heap:=h',toks:=s.toks+1}) ho λwD Qx sb=>?_⟩;have Kb:wD.get? s.heap.objs.size=some {cls:= .type "tuple",data:= .seq #[.int ((i:Int)+1) s.toks,u]}:=(sb.2 _ (gZ Ni)).trans hT;have new:dZ X.prog X.w (upd H s.heap.objs.size (.tup [.int ((i:Int)+1),x])) wD s.heap.objs.size (.tup [.int ((i:Int)+1),x]):=
   ⟨by show 2<=sizeLine;decide,[.int ((i:Int)+1) s.toks,u], .cons ⟨_,rfl⟩ (.cons ru .nil),⟨_,Kb,rfl,_,rfl⟩⟩
  have I1:Inv X pins σ (upd H s.heap.objs.size (.tup [.int ((i:Int)+1),x])) {s with heap:=wD,toks:=s.toks+1}:=
   I.oz (ch:= [e,it]) (λb ob hb q=>(sb.2 b (λz=>hb (by simp [z]))).trans (hk b ob (λz=>hb (by simp [z])) (λz=>hb (by simp [z])) q)) hf (ay _) new
  refine ⟨.ref s.heap.objs.size,_,I1,rfl,⟨_,x,rfl,I.cO.fresh (ay _),rfl,λys hy=>by rw [I.nH hy hq];exact hx⟩,⟨⟨u,?_⟩,Qt.at λo q=>(sb.2 it (fz gp)).trans q,gp⟩,λb hb=>?_⟩
  ·have e1:((i+1:Nat):Int)+1=(i:Int)+1+1:=by omega
   rw [e1];exact Qx
  ·have OG:b<s.heap.objs.size:=by
    have e':b=e∨b=it:=by simpa using hb
    rcases e' with z|z
    ·rw [z];exact Ni
    ·rw [z];exact Yr
   rw [bL (bH OG)];exact (hf b hb).1
 done:=by
  intro X hP hw hK hc i pins s σ H E I hf st hg;subst hP hw hK;obtain ⟨⟨old,he⟩,hit,gp⟩:=st;obtain ⟨xs,hq,hx⟩:=hg;obtain ⟨its,rv,p,hz⟩:=I.list hq;obtain ⟨f0,f1,f2,f3,f4,f5⟩:=hf it (by simp);have hl:=rv.length;exact sX (I.ok.hd hc) he hit p.isList (by simp;omega) λh' eb=>⟨rfl,I.turned (t':=s.toks) (λb o hb q=>eb b o hb q) f0 f1 f3 f4 f5⟩
 self:=λA i s Q E st h=>let ⟨⟨_,he⟩,_⟩:=st;ae4 he h
section
variable {M:Model} {A:adW} {E:Value->adN->Prop} {s:adN} {env:Env}
def wa {pos:Pos} {T:String} {args:List (Bool×Sem Value)} {keywords:List (Option Str×Sem Value)} {Q:Value->adN->Prop}
  (hplain:args.any (·.1)=false) (hkw:keywords.any (·.1.isNone)=false)
  (h:wpAny M A (evalArgs (.type T) true args keywords) (λa dG=>wpAny M A (call (.type T) ([] ++a.pos) a.kw) Q E dG) E s):
  wpAny M A (aeT pos (.type T) [] args keywords) Q E s:=by
 unfold aeT;refine adP (aeh (wpAny_mono h (λa dG pU=>adP (aeO ?_)) λ_ _ x=>x));simp only [hplain,hkw,re];refine adP (adV ?_);exact adP (wpAny_mono pU (λr kF hr=>adP (aeh (wpAny_point (adV hr)))) λ_ _ x=>x)
end
def Qb (K:aa) (te:TE):TI:=λσ H R=>te σ H λx H1=> ∃a xs,x= .ref a/\iF K H1 a xs/\R (Zi K a) H1
def AY {X:Cx} {e:adS} {te:TE} {p pos mU DI fi:Pos} {elts:List adS} {kk c:Nat} (hg:Gl X "enumerate") (hm:X.mg "enumerate" =none) (he:PE X e te) (hs:adU [e] X.env= [(false,eval e X.env)]:=by rfl):
  PI X (.Tuple elts kk mU) (.Call (.Name "enumerate" p) [e] [⟨some "start", .Constant (.int 1) c fi,DI⟩] pos) (Qb X.K te):=by
 intro pins s σ H R I h;refine aez (mj I hg hm boot_enumerate ?_);have hA:PA X [e] (iC te oZ):=ae he ax hs;have hK:PK X [⟨some "start", .Constant (.int 1) c fi,DI⟩] (iC (tC (.int 1)) oZ):=EV aE Jp;refine wa (by rw [hs];rfl) rfl ?_;have hb:ad2 pos (adU [e] X.env)=(false,eval e X.env):: []:=by rw [hs];rfl
 rw [hb];refine evalArgs_kwB rfl ?_;rw [<-hb];refine dJ (hA pos pins s σ H (λvs H1=>match vs with
  | [x]=> ∃(a:Addr) (xs:List V),x= .ref a/\iF X.K H1 a xs/\R (Zi X.K a) H1
  |_=>False) I h) λus s1 ⟨vs,H1,I1,r1,q1⟩=>?_
 match vs,q1,r1 with
 | [x],q1,r1=>
  obtain ⟨a,xs,rfl,hq,q⟩:=q1;rw [Vals.yZ r1];refine dJ (hK pos pins s1 σ H1 (λzs H2=>zs= [.int 1]/\H2=H1) I1 ⟨rfl,rfl⟩) λws s2 ⟨zs,H2,I2,rz,ez,eH⟩=>?_;subst ez eH;obtain ⟨u,rfl,ru⟩:=vals1 rz;obtain ⟨t,rfl⟩: ∃t,u=Value.int 1 t:=ru;show wpAny _ _ (call (.type "enumerate") [.ref a] [(Str.ofString "start", .int 1 t)]) _ _ _;obtain ⟨its,rv,p',hz⟩:=I2.list hq;refine Eb p'.isList λh' he hit hsz hk=>ae4 he ?_;have I3:Inv X pins σ H2 {s2 with heap:=h'}:=I2.kept (t':=s2.toks) hk;refine ⟨s2.heap.objs.size+1,[s2.heap.objs.size+1,s2.heap.objs.size],_,_,H2,rfl,I3,CJ a (s2.heap.objs.size+1) s2.heap.objs.size,⟨⟨.none,he⟩,hit,wv _⟩,λb hb=>?_,q⟩;have e':b=s2.heap.objs.size+1∨b=s2.heap.objs.size:=by simpa using hb
  have hle:s2.heap.objs.size<=b:=by
   rcases e' with z|z
   ·rw [z];exact dU _ _
   ·rw [z];exact ay _
  exact I2.DU hle (I2.cO.fresh hle)
end Lf
namespace Lf
open Vbahaf (rowLess least placeIn)
abbrev Cv:=cQ×Int×Option cQ
section
variable {α β:Type} {R:α->β->Prop}
def bQ.cons {a:α} {b:β} {as:List α} {bs:List β} (r:R a b) (h:bQ R as bs):bQ R (a::as) (b::bs):=by
 have:=bQ.append (bQ.snoc bQ.nil r) h;simpa using this
def bQ.CF {a:α} {as:List α} {bs:List β} (h:bQ R (a::as) bs): ∃b NW,bs=b::NW/\R a b/\bQ R as NW:=by
 cases bs with
 |nil=>exact absurd h.1 (by simp)
 |cons b NW=>exact ⟨b,NW,rfl,h.2 0 a b rfl rfl,by simpa using h.1,λi x y hx hy=>h.2 (i+1) x y (by simpa using hx) (by simpa using hy)⟩
def bQ.perm {as Wj:List α} (h:as.Perm Wj): ∀{bs:List β},bQ R as bs->∃NW,bs.Perm NW/\bQ R Wj NW:=by
 induction h with
 |nil=>exact λ{bs} h=>⟨bs, .refl _,h⟩
 |cons a p ih=>
  intro bs h;obtain ⟨b,NW,rfl,r,h⟩:=h.CF;obtain ⟨cs,q,h⟩:=ih h;exact ⟨b::cs,q.cons b,h.cons r⟩
 |swap a a' l=>
  intro bs h;obtain ⟨b,NW,rfl,r,h⟩:=h.CF;obtain ⟨b',Y7,rfl,r',h⟩:=h.CF;exact ⟨b'::b::Y7, .swap _ _ _,(h.cons r).cons r'⟩
 |trans p1 p2 ih1 XJ=>
  intro bs h;obtain ⟨cs,q1,h⟩:=ih1 h;obtain ⟨ds,q2,h⟩:=XJ h;exact ⟨ds,q1.trans q2,h⟩
end
structure xn (P:List Cv):Prop where
 nd:(P.map λx=>x.1.1).Nodup
 pt: ∀x∈P, ∀p,x.2.2=some p->∃y∈P,y.1=p
 len:P.length<=8
def oM {α β:Type} {f:α->β}: ∀{l:List α},(l.map f).Nodup->∀a∈l, ∀b∈l,f a=f b->a=b
 | [],_,a,ha,_,_,_=>by cases ha
 |x::l,nd,a,ha,b,hb,e=>by
  have nd:(f x::l.map f).Nodup:=nd;obtain ⟨n1,n2⟩:=bo.mp nd;rcases aD.mp ha with q|q<;>rcases aD.mp hb with r|r
  ·rw [q,r]
  ·subst q;exact absurd (by rw [e];exact aj.mpr ⟨b,r,rfl⟩) n1
  ·subst r;exact absurd (by rw [<-e];exact aj.mpr ⟨a,q,rfl⟩) n1
  ·exact oM n2 a q b r e
def Mn (P:List Cv):(uz P).Pairwise λa b=>a.1.1<=b.1.1:=by
 have:=sx P;rw [dE] at this;exact this
def CV {P P':List Cv} (ok:xn P) (hp:P.Perm P') (hs:(P'.map nO).Pairwise λa b=>rowLess b a=false):P'=uz P:=by
 have h1:P'.Pairwise λa b=>a.1.1<=b.1.1:=by
  rw [dE] at hs;refine hs.imp λ{a b} h=>?_;unfold nO at h;rw [Bool.eq_false_iff] at h;refine Decidable.byContradiction λz=>h (dk.mpr (.inl ?_));omega
 refine (hp.symm.trans (kY P).symm).eq_of_pairwise (le:=λa b:Cv=>a.1.1<=b.1.1) (λa b ha hb l1 l2=>?_) h1 (Mn P);exact oM ok.nd a (hp.mem_iff.mpr ha) b (hp.mem_iff.mpr (by
  have:=(kY P).mem_iff.mp hb;exact hp.mem_iff.mp this)) (by omega)
def xn.perm {P P':List Cv} (ok:xn P) (hp:P.Perm P'):xn P':=
 ⟨(hp.map _).nodup_iff.mp ok.nd,λx hx p e=>by
  obtain ⟨y,hy,e⟩:=ok.pt x (hp.mem_iff.mpr hx) p e;exact ⟨y,hp.mem_iff.mp hy,e⟩,by rw [<-hp.length_eq];exact ok.len⟩
def De {Q:List Cv} (ok:xn Q) {i:Nat} {y:Cv} (h:Q[i]?=some y):placeIn (Q.map (·.1)) y.1=(i:Int)+1:=by
 have e:(Q.map (·.1)).findIdx? (λx=>x==y.1)=some i:=by
  rw [List.findIdx?_eq_some_iff_getElem];obtain ⟨hi,hy⟩:=aK.mp h;refine ⟨by rw [ab];exact hi,by simp [hy],λk hk=>?_⟩;have Yq:k<Q.length:=by omega
  intro z;have z:Q[k].1=y.1:=by simpa using z
  have e1:=oM ok.nd Q[k] (uj Yq) y (by rw [<-hy];exact uj hi) (by rw [z]);have PQ:Q.Nodup:=by
   have:=ok.nd;exact iq this
  have:=(sT Yq PQ (j:=i)).mp (by rw [ao Yq,h,e1]);omega
 unfold placeIn;rw [e]
def Eu:Sp:=λvs H Q _=> ∃(lp:Addr) (ps:List Addr) (P:List Cv),vs= [.ref lp]/\H lp=some (.lst (ps.map V.ref))/\bQ (λp x=>H p=some (.tup ((nO x).map V.int))) ps P/\xn P/\
 ∀(H':Hp) (l:Addr),aB H H'->H l=none->H' l=some (.lst ((LX (uz P)).map V.int))->Q (.ref l) H'
def LY (Q:List Cv) (x:Cv):List Int:= [(x.1.2:Int),x.2.1,HV (Q.map (·.1)) x.2.2]
structure HH (Q:List Cv) (m:Nat) (kvs:List (Key×V)):Prop where
 zero:cx kvs (az (-1))=some (.int 0)
 at_: ∀(i:Nat) (x:Cv),i<m->Q[i]?=some x->cx kvs (az (x.1.1:Int))=some (.int ((i:Int)+1))
 len:kvs.length<=m+1
def HH.put {Q:List Cv} {m:Nat} {kvs:List (Key×V)} (h:HH Q m kvs) (ok:xn Q) {x:Cv} (hx:Q[m]?=some x):HH Q (m+1) (putK kvs (az (x.1.1:Int)) (.int ((m:Int)+1))):=by
 refine ⟨?_,λi y hi hy=>?_,?_⟩
 ·rw [uq,if_neg (λe=>by have:=cY e;omega)];exact h.zero
 ·rw [uq];by_cases e:i=m
  ·subst e;rw [hx] at hy;cases hy;rw [if_pos rfl]
  ·rw [if_neg (λz=>e ?_)]
   ·exact h.at_ i y (by omega) hy
   ·have z:=cY z;have z:y.1.1=x.1.1:=by omega
    have e1:=oM ok.nd y (aI hy) x (aI hx) z;have PQ:Q.Nodup:=iq ok.nd;exact (sT (aK.mp hy).1 PQ (j:=m)).mp (by rw [hy,hx,e1])
 ·have:=kh kvs (az (x.1.1:Int)) (.int ((m:Int)+1));have:=h.len;omega
def HH.get {Q:List Cv} {kvs:List (Key×V)} (h:HH Q Q.length kvs) (ok:xn Q) {x:Cv} (hx:x∈Q):cx kvs (az ((nO x).getD 3 0))=some (.int (HV (Q.map (·.1)) x.2.2)):=by
 cases e:x.2.2 with
 |none=>
  have:(nO x).getD 3 0= -1:=by unfold nO;rw [e];rfl
  rw [this];exact h.zero
 |some p=>
  obtain ⟨y,hy,ey⟩:=ok.pt x hx p e;obtain ⟨i,hi⟩:=dL.mp hy;have:(nO x).getD 3 0=(y.1.1:Int):=by unfold nO;rw [e,ey];rfl
  rw [this,h.at_ i y (aK.mp hi).1 hi];show _=some (V.int (placeIn (Q.map (·.1)) p));rw [<-ey,De ok hi]
section
variable {P:adT} {w:adQ} {K:aa} {mg:Str->Option Value} {base:adO} {t:CA}
def jJ:bh ["parts","in_order","places","place","part","row"] ["parts"] (aS (top 96)):=fE
def Ki (D:Dn K mg "write_threes" (top 96) ["parts"]) (b:Bl mg) (c:Cs mg):Fn P w K mg base "write_threes" 1 ["parts"] Eu:=by
 refine D.fn λf fd F=>F.ok jJ (λvs H Q E h=>?_) (λdD A outer s H vs Q E hr h=>?_)
 ·obtain ⟨_,_,_,rfl,_⟩:=h;rfl
 ·obtain ⟨lp,ps,P,rfl,hl,gL,ok,q⟩:=h;have hu:=jP hr;refine ⟨_,(am (st 1 jJ.nd (d9 vW rfl b.sorted jG (ae (pv 0) ax)))
   (am (st 2 jJ.nd (MM (Jm (kG c.we) aE MI) rfl rfl (by simp) (by decide)))
   (am (dw PassesOwn.never rfl (AY rfl b.enumerate (pv 1)) (kH rfl (cH (gn 3 jJ.nd) (cH (gn 4 jJ.nd) g8)))
    (aA (l6 hu (pv 2) (bi cK (pv 4) aE (λ_ _=>rfl)) (pv 3) rfl)))
   (am (st 5 jJ.nd (bK ax))
   (am (dw PassesOwn.never rfl (cE (pv 1)) (gn 4 jJ.nd)
    (aA (eO (D0 (pv 5) (bK (ae (bX fN (bi cK (pv 4) aE (λ_ _=>rfl)) aE) (ae (bi cK (pv 4) aE (λ_ _=>rfl)) (ae (oH hu (pv 2) (bi cK (pv 4) aE (λ_ _=>rfl)) (λ_ _=>rfl)) ax))))))))
   (aA (aY (pv 5)))))))),?_⟩
  refine ⟨_,rfl,lp,ps,rfl, .of hl,λp hp=>?_,λqs lq mD sG VU=>?_⟩
  ·obtain ⟨k,hk⟩:=dL.mp hp;obtain ⟨x,_,e⟩:=gL.get' hk;exact ⟨nO x,by unfold nO;simp,e⟩
  obtain ⟨P',QA,m6⟩:=bQ.perm mD.symm gL;have NI:qs.map (rowAt H)=P'.map nO:=by
   refine Ls λi=>?_;rw [br,br];cases e:qs[i]? with
   |none=>
    have:P'[i]?=none:=by rw [kS] at e⊢;rw [<-m6.1];exact e
    rw [this];rfl
   |some p=>
    obtain ⟨x,hx,hh⟩:=m6.get' e;rw [hx,dg,dg,uV hh]
  rw [NI] at sG;have eP:=CV ok QA sG;rw [<-eP] at q;have VE:=ok.perm QA;clear eP sG NI gL mD ok QA;have s1:aB H (upd H lq (.lst (qs.map V.ref))):=aB.new VU;intro d hd;refine ⟨ak,[(az (-1), .int 0)],rfl,by decide,?_⟩;have nd:H d=none:=s1.free hd;have PQ:lq≠d:=λe=>by rw [<-e,ak] at hd;cases hd
  have s2:aB H (upd (upd (upd H lq (.lst (qs.map V.ref))) d (.dK [])) d (.dK (ma [] [(az (-1), .int 0)]))):=aB.put (aB.put s1 nd) nd;have X7:(upd (upd (upd H lq (.lst (qs.map V.ref))) d (.dK [])) d (.dK (ma [] [(az (-1), .int 0)]))) lq=some (.lst (qs.map V.ref)):=bp (bp ak PQ) PQ;have hd2:(upd (upd (upd H lq (.lst (qs.map V.ref))) d (.dK [])) d (.dK (ma [] [(az (-1), .int 0)]))) d=some (.dK [(az (-1), .int 0)]):=by rw [ak];rfl
  generalize (upd (upd (upd H lq (.lst (qs.map V.ref))) d (.dK [])) d (.dK (ma [] [(az (-1), .int 0)])))=H2 at s2 X7 hd2;refine ⟨_,rfl,lq,_,rfl, .of X7,ml (n:=P'.length) (λm σ H'=>(∃v3 v4 v5,σ= [some (.ref lp),some (.ref lq),some (.ref d),v3,v4,v5])/\aB H H'/\H' lq=some (.lst (qs.map V.ref))/\∃kvs,H' d=some (.dK kvs)/\HH P' m kvs)
   ⟨⟨_,_,_,rfl⟩,s2,X7,_,hd2,rfl,λi x hi=>absurd hi (eC _),ay _⟩ (λm σ H' hm ⟨_,_,h1,_⟩=>?_) (λσ H' ⟨_,_,h1,_⟩=>⟨_, .of h1,by rw [ab,m6.1];exact ay _⟩) ?_ ?_⟩
  ·obtain ⟨p,hp⟩: ∃p,qs[m]?=some p:=⟨_,ao (by rw [m6.1];exact hm)⟩
   exact ⟨_,_, .of h1,bC hp⟩
  ·rintro m σ H3 y H3' hm ⟨⟨v3,v4,v5,rfl⟩,s3,RF,kvs,V0,pl⟩ ⟨T,z,rfl,hT,rfl,hz⟩;obtain ⟨p,hp,rfl⟩:=b0 (hz _ (.of RF));obtain ⟨x,hx,tp⟩:=m6.get' hp;refine ⟨T,_,rfl, .of ak,rfl,_,_,rfl,_,_,rfl,rfl,?_⟩;have s4:aB H3 (upd H3 T (.tup [.int ((m:Int)+1), .ref p])):=aB.new hT;have Uu:=s4 _ _ V0;refine ⟨_,rfl,_,rfl,_,rfl,p,_,0,_,rfl,rfl, .of (s4 _ _ (s3 _ _ tp)),at_of (j:=0) rfl rfl,d,_,rfl,oq.k (k:=az (x.1.1:Int)) Uu ?_,⟨_,_,_,rfl⟩,aB.put (s3.trans s4) nd,bp (s4 _ _ RF) PQ,_,ak,pl.put VE hx⟩;have:=pl.len;have:=VE.len;have:sizeLine=16777216:=adY;omega
  ·rintro σ H3 ⟨⟨v3,v4,v5,rfl⟩,s3,RF,kvs,V0,pl⟩;refine ⟨bv _,λlr Qq=>?_⟩;have Ru:H lr=none:=s3.free Qq;have Zy:d≠lr:=aG V0 Qq;have Xv:lq≠lr:=aG RF Qq;refine ⟨_,rfl,lq,rfl,⟨_, .of (bp RF Xv)⟩,fc (K:=K) (a:=lq) (xs:=qs.map V.ref) (λm σ H'=>(∃v3 v4,σ= [some (.ref lp),some (.ref lq),some (.ref d),v3,v4,some (.ref lr)])/\aB H H'/\H' lq=some (.lst (qs.map V.ref))/\H' d=some (.dK kvs)/\H' lr=some (.lst (((P'.take m).flatMap (LY P')).map V.int)))
    ⟨⟨_,_,rfl⟩,aB.put s3 Ru,bp RF Xv,bp V0 Zy,ak⟩ (λm σ H' _ ⟨_,_,z,_⟩=> .of z) ?_ ?_⟩
   ·rintro m y σ H4 hy ⟨⟨v3,v4,rfl⟩,s4,ZS,Uu,LF⟩;obtain ⟨p,hp,rfl⟩:=b0 hy;obtain ⟨x,hx,tp⟩:=m6.get' hp;have RZ:=s4 _ _ tp;refine ⟨_,rfl, .inl ⟨rfl,_, .of LF⟩,_,rfl,p,_,1,_,rfl,rfl, .of RZ,at_of (j:=1) rfl rfl,_,_,rfl,rfl,_,rfl,p,_,2,_,rfl,rfl, .of RZ,at_of (j:=2) rfl rfl,_,rfl,_,rfl,p,_,3,_,rfl,rfl, .of RZ,at_of (j:=3) rfl rfl,d,_,rfl, .inl ⟨kvs,az ((nO x).getD 3 0), .inl Uu,rfl,(pl.get VE (aI hx)).symm⟩,(by show 3<=sizeLine;decide),λl3 VX=>?_⟩;have n3:lr≠l3:=aG LF VX;refine ⟨lr,l3,_,_,rfl,rfl,bp LF n3,ak,?_,⟨_,_,rfl⟩,aB.put (s4.trans (aB.new VX)) Ru,vw ZS VX Xv,vw Uu VX Zy,?_⟩
    ·rw [ab];have:=gW (f:=LY P') (k:=3) (l:=P'.take m) λa _=>ay _;rw [bc] at this;have:=VE.len;have e3:([V.int ((x.1.2:Int)-1+1), .int x.2.1, .int (HV (P'.map (·.1)) x.2.2)]:List V).length=3:=rfl;have:sizeLine=16777216:=adY;show ((P'.take m).flatMap (LY P')).length+3<=sizeLine;omega
    ·rw [ak,dQ hx,cc,aO];have e4:(x.1.2:Int)-1+1=x.1.2:=by omega
     show some (HO.lst (_++ [V.int ((x.1.2:Int)-1+1), .int x.2.1, .int (HV (P'.map (·.1)) x.2.2)]))=_;rw [e4];simp [LY]
   ·rintro σ H4 ⟨⟨v3,v4,rfl⟩,s4,ZS,Uu,LF⟩;rw [ab,m6.1,bq] at LF;exact ⟨_,rfl,q H4 lr s4 Ru LF⟩
end
end Lf
namespace Lf
open Vbahaf (rowLess least)
section
variable {X:Cx} {e f:adS} {te tf:TE} {pos:Pos}
def Y2 (K:aa) (hu:X.A.units+64<ad0) (ha:PE X e te) (hb:PE X f tf) (hm:aej .Eq f=false) (hK:X.K=K:=by rfl):PT X (.Compare e [.Eq] [f] pos) (N9 (O9 (SS K) te tf)):=hK▸cD (PJ hu) ha hb hm
end
def Wc:Option (List Int)->aek
 |none=> .none
 |some r=> .tuple (r.map .int)
def Fs {K:aa} {H:Hp}: ∀r:List Int,wq K H (r.map V.int) (r.map .int)
 | []=> .nil
 |a::r=> .cons (.int a) (Fs r)
def p8.dp {K:aa} {H:Hp} {v:V} {o:Option (List Int)} (h:p8 H v o):Dp K H v (Wc o):=by
 cases o with
 |none=>
  have h:v= .fY:=h;subst h;exact .fY
 |some r=>
  obtain ⟨p,rfl,tp⟩:=h;exact .tup (.of tp) (Fs r)
def Q9 (o:Option (List Int)):Prop:= ∀r,o=some r->∃a b,r= [a,b]
def vV {o:Option (List Int)} (h:Q9 o):SeqAt.shaped (Wc o)=true:=by
 cases o with
 |none=>rfl
 |some r=>
  obtain ⟨a,b,rfl⟩:=h r rfl;rfl
def BI: ∀r t:List Int,PyData.eqvAll (r.map .int) (t.map .int)=decide (r=t)
 | [],[]=>rfl
 | [],_::_=>rfl
 |_::_,[]=>rfl
 |a::r,b::t=>by
  show (a==b&&PyData.eqvAll (r.map .int) (t.map .int))=_;rw [BI r t,aX];simp
def NJ (o o':Option (List Int)):PyData.eqv (Wc o) (Wc o')=decide (o=o'):=by
 cases o with
 |none=>cases o'<;>rfl
 |some r=>
  cases o' with
  |none=>rfl
  |some t=>
   show PyData.eqvAll (r.map .int) (t.map .int)=_;rw [BI,decide_eq_decide];simp
def L8 {o:Option (List Int)} (h:Q9 o) (p c:Int):Q9 (o.map (jU p c)):=by
 intro r e;cases o with
 |none=>cases e
 |some t=>
  obtain ⟨a,b,rfl⟩:=h t rfl;cases e;exact ⟨_,_,rfl⟩
def Sx (K:aa):Sp:=λvs H Q _=> ∃(H0 Hc:Hp) (s:ag) (j:ai) (af:Int) (l la:Addr) (L:List Un) (m:Nat) (al:Bool),vs= [.ref l, .ref la, .int m]/\iQ K H0 Hc s j af l L/\aB Hc H/\L.length<10000/\jY s j af al (dh s j af L)/\iO H la (iP s j af L) (2^j.segs.length)/\m≠0/\m<2^j.segs.length/\
 ∀(H':Hp) (r:Addr),aB H H'->H r=none->FO K Hc H' s j af r (Fc (dh s j af L) eD (pd s j af) cn m)->Q (.ref r) H'
section
variable {P:adT} {w:adQ} {K:aa} {mg:Str->Option Value} {base:adO} {t:CA}
def IW:bh ["choices","sums","mask","choice"] ["choices","sums","mask"] (aS (top 95)):=fE
def UM (D:Dn K mg "least_choices" (top 95) ["choices","sums","mask"]) (G1:Fn P w K mg base "choices_within" 2 ["choices","mask"] (qv K)) (G2:Fn P w K mg base "sum_with" 1 ["choice","sums","mask"] (rD K)):
  Fn P w K mg base "least_choices" 3 ["choices","sums","mask"] (Sx K):=by
 refine D.fn λf fd F=>F.ok IW (λvs H Q E h=>?_) (λdD A outer s H vs Q E hr h=>?_)
 ·obtain ⟨_,_,_,_,_,_,_,_,_,_,rfl,_⟩:=h;rfl
 ·obtain ⟨H0,Hc,s,j,af,l,la,L,m,al,rfl,hC,LM,hL,hI,hS,hm,Qn,q⟩:=h;refine ⟨_,(aA (aY (iD rfl IW.nd (cE (pc G1 (hr.mono (by decide)) (ae (pv 0) (ae (pv 2) ax)))) (cX (own:= [("choice",3)]) (by kernel_rfl))
    (λ_ _ _ _ _=>(gn 3 IW.nd)) (λ_ _ _ _ _=>(oG (Y2 K hr.units (pc G2 (hr.mono (by decide)) (ae (pv 3) (ae (pv 1) (ae (pv 2) ax)))) (K6 K (pv 1) (pv 2)) (bR _))))
    (λ_ _ _ _ _=>(pv 3))))),?_⟩
  refine ⟨_,rfl,_,rfl,H0,Hc,s,j,af,l,L,m,rfl,hC,LM,hL,hm,Qn,λH1 r s1 nr zY=>?_⟩;obtain ⟨lR,xc,nL⟩:=zY;refine ⟨r,rfl,⟨_, .of xc⟩,λD hD=>fO (K:=K) (a:=r) (xs:=lR.map V.ref) (λn H'=>aB H1 H'/\∃qs:List Addr,H' D=some (.lst (qs.map V.ref))/\bQ (eK K Hc (λ_=>False) s j af) qs (((jr (dh s j af L) eD m).take n).filter λu=>decide ((iP s j af L (m-eD u)).map (jU (pd s j af u) (cn u))=iP s j af L m))) ⟨aB.new hD,[],ak,bQ.nil⟩ (λn H' _ ⟨sm,_⟩=> .of (sm _ _ xc)) ?_ ?_⟩
  ·rintro n x H2 hx ⟨s2,qs,hq,m6⟩;obtain ⟨ca,rm,rfl⟩:=b0 hx;obtain ⟨u,hu,cat⟩:=nL.get' rm;have LC:=aI hu;have io:=s1.trans s2;refine ⟨rfl,_,rfl,_,rfl,_,rfl,ca,la,u,_,2^j.segs.length,m,s,j,af,_,rfl,cat.mono (LM.trans io),hS.mono io,pD s j af L,qj LC,ou (qk hI.ok LC) Qn,λH3 v s3 hv=>?_⟩;obtain ⟨xs,HX,qJ,Oz⟩:=hS.mono (io.trans s3);obtain ⟨y,hy⟩: ∃y,xs[m]?=some y:=⟨_,ao (by rw [qJ];exact Qn)⟩
   have sy:=Oz m y hy;refine ⟨_,rfl,_,rfl,la,_,_,_,rfl,rfl, .of HX,at_of (j:=m) rfl hy,_,_,hv.dp,sy.dp,vV (L8 (λr e=>pD s j af L _ _ e) _ _),vV (λr e=>pD s j af L _ _ e),_,rfl,?_⟩;rw [dQ hu,dq,bw,NJ];refine iB (λe1=>?_) (λe1=>?_)
   ·refine ⟨_,rfl,qs.map V.ref,s3 _ _ hq,?_,aB.put (s2.trans s3) hD,qs++ [ca],by rw [ak,dX],?_⟩
    ·rw [ab,m6.1];have g1:=aN (λu=>decide ((iP s j af L (m-eD u)).map (jU (pd s j af u) (cn u))=iP s j af L m)) ((jr (dh s j af L) eD m).take n);have g2:((jr (dh s j af L) eD m).take n).length<=L.length:=by
      rw [bc];exact aV (du _ _) (aV (aN _ _) (aN _ _))
     have:sizeLine=16777216:=adY;omega
    ·rw [e1];exact m6.snoc cat
   ·rw [e1];exact ⟨s2.trans s3,qs,s3 _ _ hq,by simpa using m6⟩
  ·rintro H2 ⟨s2,qs,hq,m6⟩;rw [ab,nL.1,bq] at m6;exact q H2 D (s1.trans s2) (s1.free hD) ⟨qs,hq,m6⟩
end
end Lf
namespace Lf
open Vbahaf (rowLess least)
def Io {n:Nat} (h:n<=8):(sV n).length<=6000:=by
 have key: ∀n,n<9->(sV n).length<=6000:=by decide+kernel
 exact key n (by omega)
section
variable {s:ag} {j:ai} {af:Int} {L:List Un} {al:Bool}
def qP (s:ag) (j:ai) (af:Int) (L:List Un) (m:Nat):List (List Un):=Op (dh s j af L) eD (pd s j af) cn m
def xh (s:ag) (j:ai) (af:Int) (L:List Un) (w:Nat×List Un):List (List Int):=(qP s j af L w.1).map λl=>pF s j af (w.2++l)
def uZ (m:Nat) (us:List Un) (u:Un):Nat×List Un:=(m-eD u,us++ [u])
def Li (I:jY s j af al (dh s j af L)) (h8:j.segs.length<=8):(qP s j af L (2^j.segs.length-1)).length<=6000:=by
 have hp:0<2^j.segs.length:=fk _;have h1:(qP s j af L (2^j.segs.length-1)).length<=(T (dh s j af L) eD (2^j.segs.length-1)).length:=aN _ _;have h2:=(pE I.ok (n:=j.segs.length) (k:=2^j.segs.length-1+1) h8 (by omega)).length_eq;have h3:=aN (λus:List Un=>us.all λu=>decide (u∈dh s j af L u.1.1)) (sV j.segs.length);have h4:=Io h8;unfold T at h1;omega
def qb (I:jY s j af al (dh s j af L)) (h8:j.segs.length<=8) {us:List Un} (h:us∈qP s j af L (2^j.segs.length-1)):Tiled (yX 0 j.segs.length) us:=by
 have hp:0<2^j.segs.length:=fk _;have h1:=(au.mp h).1;have h2:=(pE I.ok (n:=j.segs.length) (k:=2^j.segs.length-1+1) h8 (by omega)).mem_iff.mp h1;exact (qE h8).mp (au.mp h2).1
def sD: ∀{l:List Nat} {n:Nat},l.Pairwise (λa b=>a<b)->(∀a∈l,a<n)->∀k,(∀a∈l,k<=a)->k<=n->l.length<=n-k
 | [],_,_,_,_,_,_=>bv _
 |a::l,n,hs,hn,k,hk,h=>by
  obtain ⟨h1,h2⟩:=dm.mp hs;have ha:=hn a aM;have hka:=hk a aM;have:=sD h2 (λb hb=>hn b (aF _ hb)) (a+1) (λb hb=>h1 b hb) ha;rw [aR];omega
def uw {us:List Un} (t:Tiled (yX 0 j.segs.length) us) (h8:j.segs.length<=8):xn (us.flatMap (j3 s j af)):=by
 obtain ⟨cs,c,p⟩:=t.A3;have mD:((us.flatMap (j3 s j af)).map (·.1)).Perm cs:=by rw [rJ];exact p.perm
 have e:((us.flatMap (j3 s j af)).map λx=>x.1.1)=((us.flatMap (j3 s j af)).map (·.1)).map (·.1):=by rw [bm];rfl
 have hs:(cs.map (·.1)).Pairwise (λa b=>a<b):=by rw [dE];exact c.sorted
 refine ⟨?_,?_,?_⟩
 ·rw [e];refine (mD.map _).nodup_iff.mpr ?_;exact hs.imp λ{a b} h=>bH h
 ·intro x hx q e;obtain ⟨u,hu,hx⟩:=aW.mp hx;unfold j3 at hx;cases e2:u.2 with
  |none=>
   rw [e2] at hx;have:=aP.mp hx;subst this;cases e
  |some r=>
   rw [e2] at hx;rcases aD.mp hx with rfl|hx
   ·cases e;exact ⟨(q,k2 s j af u,some u.1),aW.mpr ⟨u,hu,by unfold j3;rw [e2];simp⟩,rfl⟩
   ·have:=aP.mp hx;subst this;cases e;exact ⟨(u.1,k1 s j af u,some r),aW.mpr ⟨u,hu,by unfold j3;rw [e2];simp⟩,rfl⟩
 ·have hl:(us.flatMap (j3 s j af)).length=(cs.map (·.1)).length:=by
   have:=mD.length_eq;rw [ab] at this;rw [ab,this]
  have jd: ∀a∈cs.map (·.1),a<j.segs.length:=by
   intro a ha;have JW:=(mD.map (λc:cQ=>c.1)).mem_iff.mpr ha;rw [<-e] at JW;obtain ⟨x,hx,rfl⟩:=aj.mp JW;obtain ⟨u,hu,hx⟩:=aW.mp hx;obtain ⟨h1,h2⟩:=fD t hu;unfold j3 at hx;unfold sW at h2;cases e2:u.2 with
   |none=>
    rw [e2] at hx h2;have:=aP.mp hx;subst this;have:=h1.1;simp only at h2⊢;omega
   |some r=>
    rw [e2] at hx h2;have h3:=h1.2 r e2;have h4:=h1.1;simp only at h2;rcases aD.mp hx with rfl|hx
    ·simp only;omega
    ·have:=aP.mp hx;subst this;simp only;omega
  have:=sD hs jd 0 (λ_ _=>bv _) (bv _);omega
structure BY (s:ag) (j:ai) (af:Int) (L:List Un) (rs:List (List Int)) (ws:List (Nat×List Un)):Prop where
 perm:(rs++ws.flatMap (xh s j af L)).Perm ((qP s j af L (2^j.segs.length-1)).map (pF s j af))
 lt: ∀w∈ws,w.1<2^j.segs.length
 sm: ∀w∈ws, ∃r,iP s j af L w.1=some r
 full: ∀w∈ws, ∀l∈qP s j af L w.1,w.2++l∈qP s j af L (2^j.segs.length-1)
def BY.start {r:List Int} (h:iP s j af L (2^j.segs.length-1)=some r):BY s j af L [] [(2^j.segs.length-1,[])]:=by
 have hp:0<2^j.segs.length:=fk _;refine ⟨?_,λw hw=>?_,λw hw=>?_,λw hw l hl=>?_⟩
 ·unfold xh;simp
 all_goals
  have:=aP.mp hw;subst this
 ·simp only;omega
 ·exact ⟨r,h⟩
 ·exact hl
def BY.len (W:BY s j af L rs ws) (I:jY s j af al (dh s j af L)) (h8:j.segs.length<=8):rs.length+ws.length<=6000:=by
 have h1:=W.perm.length_eq;rw [aL,ab] at h1;have h2:=Li I h8;have h3: ∀{ws:List (Nat×List Un)},(∀w∈ws, ∃r,iP s j af L w.1=some r)->ws.length<=(ws.flatMap (xh s j af L)).length:=by
  intro ws;induction ws with
  |nil=>intro _;exact bv _
  |cons w ws ih=>
   intro h;have:=ih λx hx=>h x (aF _ hx);obtain ⟨r,hr⟩:=h w aM;have gp:0<(xh s j af L w).length:=by
    unfold xh;rw [ab];exact j1.mpr (FK hr)
   rw [bB,aL,aR];omega
 have:=h3 W.sm;omega
def KW (us:List Un):xh s j af L (0,us)= [pF s j af us]:=by
 unfold xh qP;rw [FI];simp
def BY.row {rs:List (List Int)} {ws:List (Nat×List Un)} {us:List Un} (W:BY s j af L rs (ws++ [(0,us)])):BY s j af L (rs++ [pF s j af us]) ws:=by
 refine ⟨?_,λw hw=>W.lt w (cT _ hw),λw hw=>W.sm w (cT _ hw),λw hw=>W.full w (cT _ hw)⟩;have h:=W.perm;rw [cc,bB,uk,KW] at h;refine i9 ?_ h;rw [di,cq];exact List.Perm.append_left _ oY
def BY.Xp {rs:List (List Int)} {ws:List (Nat×List Un)} {us:List Un} (W:BY s j af L rs (ws++ [(0,us)])) (I:jY s j af al (dh s j af L)) (h8:j.segs.length<=8):xn (us.flatMap (j3 s j af)):=by
 have:=W.full (0,us) (by simp) [] (by unfold qP;rw [FI];simp);rw [di] at this;exact uw (qb I h8 this) h8
def KY (I:jY s j af al (dh s j af L)) {m:Nat} (h:m≠0) (us:List Un):xh s j af L (m,us)=((Fc (dh s j af L) eD (pd s j af) cn m).map (uZ m us)).flatMap (xh s j af L):=by
 unfold xh qP;show (Op (dh s j af L) eD (pd s j af) cn m).map _=_;rw [FJ I.ok h,ui,ul];refine cP λu _=>?_;rw [bm];show _=(Op (dh s j af L) eD (pd s j af) cn (m-eD u)).map λl=>pF s j af ((us++ [u])++l);refine bP λl _=>?_;show pF s j af (us++u::l)=_;rw [cq];rfl
def BY.push {rs:List (List Int)} {ws:List (Nat×List Un)} {m:Nat} {us:List Un} (W:BY s j af L rs (ws++ [(m,us)])) (I:jY s j af al (dh s j af L)) (h:m≠0):BY s j af L rs (ws++(Fc (dh s j af L) eD (pd s j af) cn m).map (uZ m us)):=by
 have hm:=W.lt (m,us) (by simp);obtain ⟨r,hr⟩:=W.sm (m,us) (by simp);refine ⟨?_,λw hw=>?_,λw hw=>?_,λw hw l hl=>?_⟩
 ·have h1:=W.perm;rw [cc,bB,uk,di,KY I h] at h1;rw [cc];exact h1
 all_goals rcases bG.mp hw with hw|hw
 ·exact W.lt w (cT _ hw)
 ·obtain ⟨u,hu,rfl⟩:=aj.mp hw;exact cy (Nat.sub_le _ _) hm
 ·exact W.sm w (cT _ hw)
 ·obtain ⟨u,hu,rfl⟩:=aj.mp hw;exact JI hr hu
 ·exact W.full w (cT _ hw) l hl
 ·obtain ⟨u,hu,rfl⟩:=aj.mp hw;have:=W.full (m,us) (by simp) (u::l) (by
   unfold qP;rw [FJ I.ok h];exact aW.mpr ⟨u,hu,aj.mpr ⟨l,hl,rfl⟩⟩)
  show (us++ [u])++l∈_;rw [cq];exact this
def jl (ws:List (Nat×List Un)):Nat:=(ws.map λw=>10001^w.1).sum
def me (a b:List (Nat×List Un)):jl (a++b)=jl a+jl b:=by unfold jl;rw [aO,N6]
def xT (w:Nat×List Un):jl [w]=10001^w.1:=by unfold jl;simp
def JG (ws:List (Nat×List Un)) (us:List Un):jl ws<jl (ws++ [(0,us)]):=by
 rw [me,xT];show _<_+10001^0;omega
def Pg {l:List Nat} {k:Nat} (h: ∀x∈l,x<=k):l.sum<=l.length*k:=by
 induction l with
 |nil=>simp
 |cons a l ih=>
  have:=ih λx hx=>h x (aF _ hx);have:=h a aM;rw [fB,aR,tL];omega
def GH (I:jY s j af al (dh s j af L)) (hL:L.length<10000) (ws:List (Nat×List Un)) {m:Nat} (us:List Un) (h:m≠0):jl (ws++(Fc (dh s j af L) eD (pd s j af) cn m).map (uZ m us))<jl (ws++ [(m,us)]):=by
 rw [me,me,xT];have h1:jl ((Fc (dh s j af L) eD (pd s j af) cn m).map (uZ m us))<=(Fc (dh s j af L) eD (pd s j af) cn m).length*10001^(m-1):=by
  unfold jl;have:=Pg (l:=(((Fc (dh s j af L) eD (pd s j af) cn m).map (uZ m us)).map λw=>10001^w.1)) (k:=10001^(m-1)) (λx hx=>by
   obtain ⟨w,hw,rfl⟩:=aj.mp hx;obtain ⟨u,hu,rfl⟩:=aj.mp hw;have:=qk I.ok (au.mp hu).1;exact d6 (by decide) (by show m-eD u<=m-1;omega))
  rw [ab,ab] at this;exact this
 have h2:(Fc (dh s j af L) eD (pd s j af) cn m).length<=L.length:=aV (aN _ _) (aV (aN _ _) (aN _ _));have h3:10001^m=10001^(m-1)*10001:=by rw [<-Vq];congr 1;omega
 have h4:(Fc (dh s j af L) eD (pd s j af) cn m).length*10001^(m-1)<=10000*10001^(m-1):=HR _ (by omega);have h5:0<10001^(m-1):=Nat.pow_pos (by decide);show _<jl ws+10001^m;rw [h3];omega
end
end Lf
namespace Lf
open Vbahaf (rowLess least)
def AK: ∀{a b:List Addr},a.map V.ref=b.map V.ref->a=b
 | [],[],_=>rfl
 | [],_::_,h=>by simp at h
 |_::_,[],h=>by simp at h
 |x::a,y::b,h=>by
  simp only [be,eU] at h;obtain ⟨h1,h2⟩:=h;rw [AK h2];cases h1;rfl
def BY.short {s:ag} {j:ai} {af:Int} {L:List Un} {al:Bool} {rs:List (List Int)} {ws:List (Nat×List Un)} (W:BY s j af L rs ws) (I:jY s j af al (dh s j af L)) (h8:j.segs.length<=8) {m:Nat} {us:List Un} (h:(m,us)∈ws):(us.flatMap (j3 s j af)).length<=8:=by
 obtain ⟨r,hr⟩:=W.sm _ h;obtain ⟨l,hl⟩: ∃l,l∈qP s j af L m:=List.exists_mem_of_ne_nil _ (FK hr);have:=(uw (s:=s) (af:=af) (qb I h8 (W.full _ h l hl)) h8).len;rw [cc,aL] at this;exact aV (dU _ _) this
def Ent (s:ag) (j:ai) (af:Int) (H:Hp) (lr lw:Addr) (p:Addr) (w:Nat×List Un):Prop:= ∃(lp:Addr) (ps:List Addr),H p=some (.tup [.int (w.1:Int), .ref lp])/\lp≠lr/\lp≠lw/\H lp=some (.lst (ps.map V.ref))/\bQ (λp x=>H p=some (.tup ((nO x).map V.int))) ps (w.2.flatMap (j3 s j af))
structure TR (s:ag) (j:ai) (af:Int) (H0 H:Hp) (lr lw:Addr) (rs:List (List Int)) (ws:List (Nat×List Un)):Prop where
 base:aB H0 H
 n1:H0 lr=none
 n2:H0 lw=none
 ne:lr≠lw
 rows: ∃zX:List Addr,H lr=some (.lst (zX.map V.ref))/\bQ (λp r=>p≠lr/\p≠lw/\H p=some (.lst (r.map V.int))) zX rs
 wait: ∃qf:List Addr,H lw=some (.lst (qf.map V.ref))/\bQ (Ent s j af H lr lw) qf ws
section
variable {s:ag} {j:ai} {af:Int} {H0 H H':Hp} {lr lw p:Addr} {rs:List (List Int)} {ws:List (Nat×List Un)} {w:Nat×List Un}
def Ent.mono (h:Ent s j af H lr lw p w) (e:aB H H'):Ent s j af H' lr lw p w:=by
 obtain ⟨lp,ps,h1,h2,h3,h4,h5⟩:=h;exact ⟨lp,ps,e _ _ h1,h2,h3,e _ _ h4,h5.mono λ_ _ z=>e _ _ z⟩
def Ent.put {a:Addr} {xs ys:List V} (h:Ent s j af H lr lw p w) (ha:a=lr∨a=lw) (hl:H a=some (.lst xs)):Ent s j af (upd H a (.lst ys)) lr lw p w:=by
 obtain ⟨lp,ps,h1,h2,h3,h4,h5⟩:=h;refine ⟨lp,ps,bp h1 (cg h1 hl λz=>nomatch z),h2,h3,bp h4 ?_,h5.mono λ_ _ z=>bp z (cg z hl λz=>nomatch z)⟩;rcases ha with rfl|rfl
 ·exact h2
 ·exact h3
def TR.mono (h:TR s j af H0 H lr lw rs ws) (e:aB H H'):TR s j af H0 H' lr lw rs ws:=by
 obtain ⟨b,n1,n2,ne,⟨zX,r1,r2⟩,⟨qf,w1,w2⟩⟩:=h;exact ⟨b.trans e,n1,n2,ne,⟨zX,e _ _ r1,r2.mono λ_ _ z=>⟨z.1,z.2.1,e _ _ z.2.2⟩⟩,⟨qf,e _ _ w1,w2.mono λ_ _ z=>z.mono e⟩⟩
def TR.last (h:TR s j af H0 H lr lw rs (ws++ [w])): ∃(qf:List Addr) (p:Addr),H lw=some (.lst ((qf++ [p]).map V.ref))/\Ent s j af H lr lw p w/\TR s j af H0 (upd H lw (.lst (qf.map V.ref))) lr lw rs ws:=by
 obtain ⟨b,n1,n2,ne,⟨zX,r1,r2⟩,⟨CC,w1,w2⟩⟩:=h;have hl:=w2.1;rw [aL,gu] at hl;have gp:CC≠ []:=λe=>by rw [e] at hl;cases hl
 obtain ⟨qf,p,rfl⟩: ∃qf p,CC=qf++ [p]:=⟨_,_,(jH gp).symm⟩
 rw [aL,gu] at hl;refine ⟨qf,p,w1,w2.2 ws.length p w (by rw [show ws.length=qf.length by omega];simp) (by simp),aB.put b n2,n1,n2,ne,⟨zX,bp r1 ne,r2.mono λ_ _ z=>⟨z.1,z.2.1,bp z.2.2 z.2.1⟩⟩,qf,ak,by omega,λi a x ha hx=>?_⟩;have hi:=(aK.mp ha).1;exact (w2.2 i a x (by rw [bV hi];exact ha) (by rw [bV (by omega)];exact hx)).put (.inr rfl) w1
def TR.push (h:TR s j af H0 H lr lw rs ws) (hp:Ent s j af H lr lw p w): ∃qf:List Addr,H lw=some (.lst (qf.map V.ref))/\qf.length=ws.length/\TR s j af H0 (upd H lw (.lst (qf.map V.ref++ [.ref p]))) lr lw rs (ws++ [w]):=by
 obtain ⟨b,n1,n2,ne,⟨zX,r1,r2⟩,⟨qf,w1,w2⟩⟩:=h;refine ⟨qf,w1,w2.1,aB.put b n2,n1,n2,ne,⟨zX,bp r1 ne,r2.mono λ_ _ z=>⟨z.1,z.2.1,bp z.2.2 z.2.1⟩⟩,qf++ [p],by rw [ak,dX],?_⟩;exact (w2.mono λ_ _ z=>z.put (.inr rfl) w1).snoc (hp.put (.inr rfl) w1)
def TR.row {r:List Int} (h:TR s j af H0 H lr lw rs ws) (hp:H p=some (.lst (r.map V.int))) (h1:p≠lr) (h2:p≠lw): ∃zX:List Addr,H lr=some (.lst (zX.map V.ref))/\zX.length=rs.length/\TR s j af H0 (upd H lr (.lst (zX.map V.ref++ [.ref p]))) lr lw (rs++ [r]) ws:=by
 obtain ⟨b,n1,n2,ne,⟨zX,r1,r2⟩,⟨qf,w1,w2⟩⟩:=h;refine ⟨zX,r1,r2.1,aB.put b n1,n1,n2,ne,⟨zX++ [p],by rw [ak,dX],?_⟩,qf,bp w1 ne.symm,w2.mono λ_ _ z=>z.put (.inl rfl) r1⟩;exact (r2.mono λ_ _ z=>⟨z.1,z.2.1,bp z.2.2 z.1⟩).snoc ⟨h1,h2,bp hp h1⟩
end
def Oc (K:aa):Sp:=λvs H Q _=> ∃(H0:Hp) (s:ag) (j:ai) (af:Int) (l la:Addr) (L:List Un) (al:Bool) (r0:List Int),vs= [.ref l, .ref la]/\iQ K H0 H s j af l L/\L.length<10000/\jY s j af al (dh s j af L)/\iO H la (iP s j af L) (2^j.segs.length)/\j.segs.length<=8/\iP s j af L (2^j.segs.length-1)=some r0/\
 ∀(H':Hp) (r:Addr) (t:List Int),aB H H'->H' r=some (.lst (t.map V.int))->least ((qP s j af L (2^j.segs.length-1)).map (pF s j af))=some t->Q (.ref r) H'
section
variable {P:adT} {w:adQ} {K:aa} {mg:Str->Option Value} {base:adO} {t:CA}
def pK:bh ["choices","sums","rows","waiting","state","mask","parts","choice"] ["choices","sums"] (aS (top 97)):=fE
def QH (D:Dn K mg "least_threes" (top 97) ["choices","sums"]) (b:Bl mg) (G1:Fn P w K mg base "write_threes" 1 ["parts"] Eu) (G2:Fn P w K mg base "least_choices" 3 ["choices","sums","mask"] (Sx K)):
  Fn P w K mg base "least_threes" 4 ["choices","sums"] (Oc K):=by
 refine D.fn λf fd F=>F.ok pK (λvs H Q E h=>?_) (λdD A outer s H vs Q E hr h=>?_)
 ·obtain ⟨_,_,_,_,_,_,_,_,_,rfl,_⟩:=h;rfl
 ·obtain ⟨H0,s,j,af,l,la,L,al,r0,rfl,hC,hL,hI,hS,h8,Ql,q⟩:=h;obtain ⟨xs,HX,qJ,Oz⟩:=id hS;have GV:0<2^j.segs.length:=fk _;refine ⟨_,(am (st 2 pK.nd (bK ax))
   (am (st 3 pK.nd (bK (ae (fM (ae (bX gd (i4 b.len (pv 1)) aE) (ae (bK ax) ax))) ax)))
   (am (u0 PassesOwn.never (AT (pv 3) (λ_=>rfl))
    (am (st 4 pK.nd (Pz lM PySem.F.slot_list_pop PySem.F.type_list_pop PR (pv 3)))
   (am (st 5 pK.nd (bi cK (pv 4) aE (λ_ _=>rfl)))
   (am (st 6 pK.nd (bi cK (pv 4) aE (λ_ _=>rfl)))
   (aA (cF (cD gg (pv 5) aE (bR _))
    (aA (eO (BJ (pv 2) (pc G1 (hr.mono (by decide)) (ae (pv 6) ax)))))
    (aA (dw PassesOwn.never rfl (cE (pc G2 (hr.mono (by decide)) (ae (pv 0) (ae (pv 1) (ae (pv 5) ax))))) (gn 7 pK.nd)
    (aA (eO (BJ (pv 3) (fM (ae (bX gd (pv 5) (aT (pv 7) rfl)) (ae (bX pP (pv 6) (aT (pv 7) rfl)) ax))))))))))))))
   (aA (aY (d9 (NP rfl hr.units) rfl b.min ii (ae (pv 2) ax))))))),?_⟩
  refine ⟨bv _,λlr Ru=>?_⟩;have s1:aB H (upd H lr (.lst [])):=aB.new Ru;refine ⟨_,rfl,la,_,rfl, .inl (.of (s1 _ _ HX)),_,_,rfl,rfl,bv _,λl0 Xz=>⟨(by show 2<=sizeLine;decide),λt0 PL=>⟨(by show 1<=sizeLine;decide),λlw E6=>?_⟩⟩⟩;have em:((xs.length:Nat):Int)-1=((2^j.segs.length-1:Nat):Int):=by rw [qJ];omega
  have T0:TR s j af H (upd (upd (upd (upd H lr (.lst [])) l0 (.lst [])) t0 (.tup [.int (((xs.length:Nat):Int)-1), .ref l0])) lw (.lst [.ref t0])) lr lw [] [(2^j.segs.length-1,[])]:=by
   have e1:lr≠l0:=λe=>by rw [<-e,ak] at Xz;cases Xz
   have h1:(upd (upd H lr (.lst [])) l0 (.lst [])) lr=some (.lst []):=bp ak e1;have s2:aB (upd H lr (.lst [])) (upd (upd H lr (.lst [])) l0 (.lst [])):=aB.new Xz;have s3:=aB.new (o:= .tup [.int (((xs.length:Nat):Int)-1), .ref l0]) PL;have s4:=aB.new (o:= .lst [.ref t0]) E6;have h2:=s3 _ _ h1;have h3:=s3 l0 _ ak;have h4:(upd (upd (upd H lr (.lst [])) l0 (.lst [])) t0 (.tup [.int (((xs.length:Nat):Int)-1), .ref l0])) t0=some (.tup [.int (((xs.length:Nat):Int)-1), .ref l0]):=ak;refine ⟨((s1.trans s2).trans s3).trans s4,Ru,((s1.trans s2).trans s3).free E6,aG h2 E6,⟨[],s4 _ _ h2,bQ.nil⟩,[t0],ak,bQ.snoc bQ.nil ⟨l0,[],(by rw [<-em];exact s4 _ _ h4),e1.symm,aG h3 E6,s4 _ _ h3,bQ.nil⟩⟩
  refine ⟨λk σ H'=> ∃rs ws,k=jl ws/\(∃v4 v5 v6 v7,σ= [some (.ref l),some (.ref la),some (.ref lr),some (.ref lw),v4,v5,v6,v7])/\TR s j af H H' lr lw rs ws/\BY s j af L rs ws,⟨_,[],[(2^j.segs.length-1,[])],rfl,⟨_,_,_,_,rfl⟩,T0,BY.start Ql⟩,?_⟩;rintro k σ H2 ⟨rs,ws,rfl,⟨v4,v5,v6,v7,rfl⟩,T,W⟩;have hlen:=W.len hI h8;have hz:sizeLine=16777216:=adY;obtain ⟨CC,TF,TB⟩:=T.wait;refine ⟨_,rfl,!(CC.map V.ref).isEmpty, .inl ⟨_, .of TF,rfl⟩,?_⟩;by_cases e0:ws= []
  ·subst e0;have e1:CC= []:=d4 TB.1;subst e1;obtain ⟨zX,LG,GU⟩:=T.rows;have hP:=W.perm;rw [uk,di] at hP;refine ⟨_,rfl,lr,zX,rs,rfl, .of LG,GU.mono λ_ _ z=>z.2.2,?_,λi p r hp Cq hle=>?_⟩
   ·rw [GU.1,hP.length_eq,ab];exact j1.mpr (FK Ql)
   ·exact q H2 p r T.base (GU.2 i p r hp Cq).2.2 (by rw [<-hle];exact iZ λx=>hP.mem_iff.symm)
  ·obtain ⟨N7,⟨m,us⟩,rfl⟩: ∃N7 w,ws=N7++ [w]:=⟨_,_,(jH e0).symm⟩
   obtain ⟨qf,p,xb,hE,T2⟩:=T.last;have e2:CC=qf++ [p]:=by
    rw [TF] at xb;have z:CC.map V.ref=(qf++ [p]).map V.ref:=by injection (bx xb)
    exact AK z
   subst e2;rw [show (!((qf++ [p]).map V.ref).isEmpty)=true by simp];refine o0 ⟨λeX H'=> ∃MB Il,jl Il<jl (N7++ [(m,us)])/\(∃v4 v5 v6 v7,eX= [some (.ref l),some (.ref la),some (.ref lr),some (.ref lw),v4,v5,v6,v7])/\TR s j af H H' lr lw MB Il/\BY s j af L MB Il,λeX H' ⟨MB,Il,a,b,c,d⟩=>⟨_,a,MB,Il,rfl,b,c,d⟩,?_⟩;refine ⟨_,rfl, .inl ⟨rfl,_, .of TF⟩,lw,_, .ref p,rfl,rfl,TF,by simp,?_⟩;have ed:((qf++ [p]).map V.ref).dropLast=qf.map V.ref:=by simp
   rw [ed];obtain ⟨lp,ps,tp,nr,nw,By,gL⟩:=hE.put (ys:=qf.map V.ref) (.inr rfl) TF;generalize upd H2 lw (.lst (qf.map V.ref))=H3 at T2 tp By gL;refine ⟨_,rfl,p,_,0,_,rfl,rfl, .of tp,at_of (j:=0) rfl rfl,?_⟩;refine ⟨_,rfl,p,_,1,_,rfl,rfl, .of tp,at_of (j:=1) rfl rfl,?_⟩;refine ⟨_,rfl,rfl,_,rfl,?_⟩;obtain ⟨abb,RC,_⟩:=T2.rows;obtain ⟨aaY,Rz,_⟩:=T2.wait;by_cases hm:m=0
   ·subst hm;refine eqT rfl ?_;refine ⟨_,rfl, .inl ⟨rfl,_, .of RC⟩,_,rfl,lp,ps,_,rfl,By,gL,W.Xp hI h8,λH4 p4 s4 n4 h4=>?_⟩;obtain ⟨zX,LF,Qq,T4⟩:=(T2.mono s4).row h4 (aG RC n4).symm (aG Rz n4).symm;refine ⟨lr,_,_,rfl,rfl,LF,?_,rs++ [pF s j af us],N7,JG N7 us,⟨_,_,_,_,rfl⟩,T4,W.row⟩;rw [ab,Qq];omega
   ·refine LO (by omega) ?_;have Qn:=W.lt (m,us) (by simp);obtain ⟨ls,C⟩:=hC;refine ⟨_,rfl,_,rfl,_,rfl,H0,H,s,j,af,l,la,L,m,al,rfl,⟨ls,C⟩,T2.base,hL,hI,hS.mono T2.base,hm,Qn,λH4 r s4 n4 zY=>?_⟩;obtain ⟨lR,xc,nL⟩:=zY;have nrw:r≠lw:=(aG Rz n4).symm;have T4:=T2.mono s4;have Yk:=s4 _ _ By;have ab6:(Fc (dh s j af L) eD (pd s j af) cn m).length<=L.length:=aV (aN _ _) (aV (aN _ _) (aN _ _));have abN:N7.length<=6000:=by
     rw [aL] at hlen;omega
    refine ⟨r,rfl,⟨_, .of xc⟩,fc (K:=K) (a:=r) (xs:=lR.map V.ref) (λn σ H'=>(∃v4 v7,σ= [some (.ref l),some (.ref la),some (.ref lr),some (.ref lw),v4,some (.int (m:Int)),some (.ref lp),v7])/\TR s j af H H' lr lw rs (N7++((Fc (dh s j af L) eD (pd s j af) cn m).take n).map (uZ m us))/\dH lw H4 H')
     ⟨⟨_,_,rfl⟩,by simpa using T4,λ_ _ _ z=>z⟩ (λn σ H' _ ⟨_,_,z⟩=> .of (z _ _ nrw xc)) ?_ ?_⟩
    ·rintro n x σ H5 hx ⟨⟨v4,v7,rfl⟩,T5,B5⟩;obtain ⟨ca,rm,rfl⟩:=b0 hx;obtain ⟨u,hu,cat⟩:=nL.get' rm;have LC:=(au.mp (aI hu)).1;have RL:=qj LC;have U1:=cat.mono T5.base;obtain ⟨lc,pc,_,DT,hlc,ZU⟩:=U1.parts;have Yj:=B5 _ _ nw Yk;have TX:bQ (λp x=>H5 p=some (.tup ((nO x).map V.int))) ps (us.flatMap (j3 s j af)):=gL.mono λ_ _ z=>B5 _ _ (cg z Rz λz=>nomatch z) (s4 _ _ z);obtain ⟨aaX,ZN,_⟩:=T5.wait;obtain ⟨aba,hr5,_⟩:=T5.rows;refine ⟨_,rfl, .inl ⟨rfl,_, .of ZN⟩,_,rfl,_,rfl,aH U1.vX ⟨_,_,rfl,rfl,_,rfl,_,rfl,aH DT ⟨lp,lc,_,_,rfl,rfl,Yj,hlc,?_,λln LA=>⟨(by show 2<=sizeLine;decide),λtn ntn=>?_⟩⟩⟩⟩
     ·rw [ab,ab,TX.1,ZU.1];have g1:=W.short hI h8 (m:=m) (us:=us) (by simp);have g2:(j3 s j af u).length<=2:=by unfold j3;cases u.2<;>simp
      omega
     ·have em2:(m:Int)-(eD u:Int)=((m-eD u:Nat):Int):=by omega
      have s6:aB H5 (upd H5 ln (.lst (ps.map V.ref++pc.map V.ref))):=aB.new LA;have s7:=aB.new (o:= .tup [.int ((m:Int)-(eD u:Int)), .ref ln]) ntn;have E7:Ent s j af (upd (upd H5 ln (.lst (ps.map V.ref++pc.map V.ref))) tn (.tup [.int ((m:Int)-(eD u:Int)), .ref ln])) lr lw tn (uZ m us u):=by
       refine ⟨ln,ps++pc,(by show _=some (HO.tup [V.int ((m-eD u:Nat):Int),V.ref ln]);rw [<-em2];exact ak),(aG hr5 LA).symm,(aG ZN LA).symm,?_,?_⟩
       ·rw [aO];exact s7 _ _ ak
       ·show bQ _ _ ((us++ [u]).flatMap (j3 s j af));rw [cc];have:=(TX.append ZU).mono λ_ _ z=>s7 _ _ (s6 _ _ z);simpa using this
      obtain ⟨aaW,VN,VW,T8⟩:=((T5.mono s6).mono s7).push E7;refine ⟨lw,_,_,rfl,rfl,VN,?_,⟨_,_,rfl⟩,?_,(B5.trans (aB.but (s6.trans s7))).trans dH.upd⟩
      ·rw [ab,VW,aL,ab,bc];omega
      ·rw [dQ hu,aO, <-cq];exact T8
    ·rintro σ H5 ⟨⟨v4,v7,rfl⟩,T5,B5⟩;rw [ab,nL.1,bq] at T5;exact ⟨rs,_,GH hI hL N7 us hm,⟨_,_,_,_,rfl⟩,T5,W.push hI hm⟩
end
end Lf
namespace Lf
open Vbahaf (rowLess least price firstOf alone allSingles)
def r9 {α:Type} {xs:List α} {v:α} {z:Int} (hz:z= -1) (h:xs[xs.length-1]?=some v):FD xs z=some v:=by
 subst hz;have gp:xs≠ []:=λe=>by rw [e] at h;cases h
 obtain ⟨ys,w,rfl⟩: ∃ys w,xs=ys++ [w]:=⟨_,_,(jH gp).symm⟩
 simp at h;subst h;exact Le ys w
def HQ (K:aa) (vs:List V) (H:Hp) (R:ag->ai->Int->Prop):Prop:= ∃(h:HA) (s:ag) (fl:List aq) (j:ai) (af:Int),vs= [.ref h.a, .int af]/\ba K H h s fl/\s.journey=some j/\(0<=af/\af<=4)/\R s j af
def xC (K:aa):Sp:=λvs H Q _=>HQ K vs H λs j af=>(∀H',aB H H'->price s j af=none->Q .fY H')/\∀(H':Hp) (l:Addr) (r:List Int),aB H H'->price s j af=some r->r.length<=30->H' l=some (.lst (r.map V.int))->Q (.ref l) H'
def yB {s:ag} {j:ai} {af:Int} {L:List Un} {al:Bool} (I:jY s j af al (dh s j af L)) (h8:j.segs.length<=8) {t:List Int} (h:least ((qP s j af L (2^j.segs.length-1)).map (pF s j af))=some t):t.length<=24:=by
 obtain ⟨us,Cp,rfl⟩:=aj.mp (cu.mp h).1;have h1:=(uw (s:=s) (af:=af) (qb I h8 Cp) h8).len;unfold pF LX;have h2:=gW (k:=3) (l:=uz (us.flatMap (j3 s j af))) (f:=λx=> [(x.1.2:Int),x.2.1,HV ((uz (us.flatMap (j3 s j af))).map (·.1)) x.2.2]) λ_ _=>ay _;rw [(kY _).length_eq] at h2;omega
def nV {n:Nat} (h8:n<=8):(lE n).length<10000:=by
 unfold lE;rw [aL];have g1:=tW h8 (oA n n).length;have g2:=ES h8 (oA n n).length;omega
section
variable {P:adT} {w:adQ} {K:aa} {mg:Str->Option Value} {base:adO} {t:CA}
def yP:bh ["house","kind","choices","sums"] ["house","kind"] (aS (top 98)):=fE
def Nu (D:Dn K mg "least_pricing" (top 98) ["house","kind"]) (G1:Fn P w K mg base "find_choices" 8 ["house","kind"] (tT K)) (G2:Fn P w K mg base "least_sums" 3 ["choices"] (CW K)) (G3:Fn P w K mg base "least_threes" 4 ["choices","sums"] (Oc K)):
  Fn P w K mg base "least_pricing" 9 ["house","kind"] (xC K):=by
 refine D.fn λf fd F=>F.ok yP (λvs H Q E h=>?_) (λdD A outer s H vs Q E hr h=>?_)
 ·obtain ⟨_,_,_,_,_,rfl,_⟩:=h;rfl
 ·obtain ⟨h,s,fl,j,af,rfl,hh,hj,hk,q0,q1⟩:=h;have h8:j.segs.length<=8:=(hh.ok.jo j hj).ge;refine ⟨_,(am (st 2 yP.nd (pc G1 (hr.mono (by decide)) (ae (pv 0) (ae (pv 1) ax))))
   (am (st 3 yP.nd (pc G2 (hr.mono (by decide)) (ae (pv 2) ax)))
   (am (cF (gc (jM (bi aZ (pv 3) (u4 pC aE) (λ_ _=>rfl))))
    (aA (aY l8))
    bI)
   (aA (aY (bX pP (bK (ae (bi cK (bi aZ (pv 3) (u4 pC aE) (λ_ _=>rfl)) aE (λ_ _=>rfl)) (ae (bi cK (bi aZ (pv 3) (u4 pC aE) (λ_ _=>rfl)) aE (λ_ _=>rfl)) ax))) (pc G3 (hr.mono (by decide)) (ae (pv 2) (ae (pv 3) ax))))))))),?_⟩
  refine ⟨_,rfl,_,rfl,h,s,fl,j,af,rfl,hh,hj,hk,λH1 l s1 hC=>?_⟩;refine ⟨_,rfl,H,s,j,af,l,_,false,rfl,hC,nV h8,h8,lB s j af,λH2 la s2 Dr hS=>?_⟩;have GV:0<2^j.segs.length:=fk _;obtain ⟨xs,HX,qJ,Oz⟩:=id hS;obtain ⟨v,hv⟩: ∃v,xs[xs.length-1]?=some v:=⟨_,ao (by omega)⟩
  have sv:=Oz _ _ hv;rw [qJ] at sv;have C:=lB s j af;have K4:=ly j;refine ⟨_,rfl,_,rfl,la,_,_,v,rfl,rfl, .of HX,r9 rfl hv,?_⟩;cases e:iP s j af (lE j.segs.length) (2^j.segs.length-1) with
  |none=>
   rw [e] at sv;have sv:v= .fY:=sv;subst sv;have:=pO C h8 (ay _) e;rw [K4] at this;exact ⟨_,rfl,q0 H2 (s1.trans s2) this⟩
  |some r=>
   rw [e] at sv;obtain ⟨a,b,rfl⟩:=pD s j af _ _ _ e;obtain ⟨p,rfl,tp⟩:=sv;refine ⟨_,rfl,?_⟩;refine ⟨_,rfl,_,rfl,la,_,_,_,rfl,rfl, .of HX,r9 rfl hv,p,_,0,_,rfl,rfl, .of tp,at_of (j:=0) rfl rfl,_,rfl,_,rfl,la,_,_,_,rfl,rfl, .of HX,r9 rfl hv,p,_,1,_,rfl,rfl, .of tp,at_of (j:=1) rfl rfl,(by show 2<=sizeLine;decide),λl2 n2=>?_⟩;have s3:aB H2 (upd H2 l2 (.lst [.int a, .int b])):=aB.new n2;obtain ⟨ls,CB⟩:=hC;refine ⟨_,rfl,_,rfl,H,s,j,af,l,la,lE j.segs.length,false,[a,b],rfl,⟨ls,CB.mono (s2.trans s3)⟩,nV h8,C,hS.mono s3,h8,e,λH4 r4 t4 s4 LF hle=>?_⟩;have VO:=pN C h8 (ay _) e hle;rw [K4] at VO;refine ⟨l2,r4,_,_,rfl,rfl,s4 _ _ ak,LF,?_,λlz nz=>q1 _ lz ([a,b] ++t4) (((((s1.trans s2).trans s3).trans s4)).trans (aB.new nz)) VO (by have:=yB C h8 hle;rw [aL];show 2+t4.length<=30;omega) (by rw [ak,aO];rfl)⟩;have:=yB C h8 hle;rw [ab];have:sizeLine=16777216:=adY;show 2+t4.length<=sizeLine;omega
def vO:Option Int->V
 |none=> .fY
 |some a=> .int a
def rB (s:ag) (j:ai) (af:Int) (L:List Un) (i:Nat):V:=vO ((iP s j af L (2^(i+1)-1)).map λr=>r.headD 0)
def uB (K:aa):Sp:=λvs H Q _=> ∃(H0:Hp) (s:ag) (j:ai) (af:Int) (l:Addr) (L:List Un) (al:Bool),vs= [.ref l]/\iQ K H0 H s j af l L/\L.length<10000/\j.segs.length<=8/\jY s j af al (dh s j af L)/\
 ∀(H':Hp) (r:Addr),aB H H'->H r=none->H' r=some (.lst ((bb j.segs.length).map (rB s j af L)))->Q (.ref r) H'
def oF:bh ["choices","sums","prefixes","many","found"] ["choices"] (aS (top 99)):=fE
def Nv (D:Dn K mg "prefix_totals" (top 99) ["choices"]) (b:Bl mg) (G:Fn P w K mg base "least_sums" 3 ["choices"] (CW K)):Fn P w K mg base "prefix_totals" 4 ["choices"] (uB K):=by
 refine D.fn λf fd F=>F.ok oF (λvs H Q E h=>?_) (λdD A outer s H vs Q E hr h=>?_)
 ·obtain ⟨_,_,_,_,_,_,_,rfl,_⟩:=h;rfl
 ·obtain ⟨H0,s,j,af,l,L,al,rfl,hC,hL,h8,hI,q⟩:=h;obtain ⟨ls,C⟩:=id hC;refine ⟨_,(am (st 1 oF.nd (pc G (hr.mono (by decide)) (ae (pv 0) ax)))
   (am (qB (i:=2) rfl oF.nd rfl rfl (tR rfl rfl rfl rfl) (iL rfl b.range (ae aE (ae (bX fN (i4 b.len (pv 0)) aE) ax))) (cX (own:= [("many",3)]) (by kernel_rfl))
    (λ_ _ _ _ _=>(gn 3 oF.nd)) (λ_ _ _ _ _=>fw)
    (λ_ _ _ _ _=>(K6 K (pv 1) (bX gd (bX y4 aE (pv 3)) aE))))
   (aA (aY (iD rfl oF.nd (cE (pv 2)) (cX (own:= [("found",4)]) (by kernel_rfl))
    (λ_ _ _ _ _=>(gn 4 oF.nd)) (λ_ _ _ _ _=>fw)
    (λ_ _ _ _ _=>(A1 (gc (jM (pv 4))) l8 (Y1 K (pv 4) aE)))))))),?_⟩
  refine ⟨_,rfl,H0,s,j,af,l,L,al,rfl,hC,hL,h8,hI,λH1 la s1 Dr hS=>?_⟩;obtain ⟨xs,HX,qJ,Oz⟩:=id hS;have rl:((ls.map V.ref).length:Int)=j.segs.length:=by rw [ab,C.len]
  have Ud: ∀k,k<j.segs.length->2^(k+1)<=2^j.segs.length:=λk hk=>d6 (by decide) hk;have Nb: ∀k:Nat,0<2^(k+1):=λk=>fk _;refine ⟨_,rfl,l,_,rfl, .inl (.of (s1 _ _ C.lst)),_,_,rfl,rfl,_,_,rfl,?_,λD hD=>?_⟩
  ·rw [rl];exact ⟨by omega,by omega,by omega,by omega⟩
  refine Bp (lo:=1) (λn H'=>aB H1 H'/\∃ys:List V,H' D=some (.lst ys)/\ys.length=n/\∀(i:Nat) (v:V),ys[i]?=some v->p8 H1 v (iP s j af L (2^(i+1)-1))) ⟨aB.new hD,[],ak,rfl,λi v z=>by simp at z⟩ ?_ ?_
  ·rintro k H2 hk ⟨s2,ys,hy,M8,LB⟩;rw [rl] at hk;have hk:k<j.segs.length:=by omega
   have g1:=Ud k hk;have g2:=Nb k;obtain ⟨v,hv⟩: ∃v,xs[2^(k+1)-1]?=some v:=⟨_,ao (by omega)⟩
   have eix:(1:Int)*2^((1:Int)+(k:Int)).toNat-1=((2^(k+1)-1:Nat):Int):=by
    have e1:(1:Int)+(k:Int)=((k+1:Nat):Int):=by omega
    rw [e1,yN];omega
   refine ⟨rfl,_,rfl,_,rfl,_,_,rfl,rfl,⟨by omega,by omega,by decide⟩,_,_,rfl,rfl,la,_,_,v,rfl,rfl, .of (s2 _ _ HX),at_of (j:=2^(k+1)-1) eix hv,ys,hy,?_,aB.put s2 hD,ys++ [v],ak,?_,?_⟩
   ·have:sizeLine=16777216:=adY;omega
   ·rw [aL,M8];rfl
   ·intro i w hw;by_cases hi:i<ys.length
    ·rw [bV hi] at hw;exact LB i w hw
    ·rw [cA (by omega)] at hw;have Ys:i=k:=by
      have:=(aK.mp hw).1;simp only [aR,cU] at this;omega
     subst Ys;rw [M8,tM] at hw;cases hw;exact Oz _ _ hv
  ·rintro H2 ⟨s2,ys,hy,M8,LB⟩;have en:((((ls.map V.ref).length:Nat):Int)+1-1).toNat=j.segs.length:=by rw [rl];omega
   have M8:ys.length=j.segs.length:=M8.trans en;refine ⟨_,rfl,D,rfl,⟨_, .of hy⟩,λD2 RN=>fO (K:=K) (a:=D) (xs:=ys) (λn H'=>aB H2 H'/\H' D2=some (.lst (((bb j.segs.length).take n).map (rB s j af L)))) ⟨aB.new RN,ak⟩ (λn H' _ ⟨sm,_⟩=> .of (sm _ _ hy)) ?_ ?_⟩
   ·rintro n y H3 VJ ⟨s3,h3⟩;have hn:n<j.segs.length:=by
     have:=(aK.mp VJ).1;omega
    have sv:=LB n y VJ;have ht:(bb j.segs.length)[n]?=some n:=by rw [hW hn]
    have hsz:(((bb j.segs.length).take n).map (rB s j af L)).length<sizeLine:=by
     rw [ab,bc,bZ];have:sizeLine=16777216:=adY;omega
    have fin: ∀v,v=rB s j af L n->aB H2 (upd H3 D2 (.lst (((bb j.segs.length).take n).map (rB s j af L)++ [v])))/\upd H3 D2 (.lst (((bb j.segs.length).take n).map (rB s j af L)++ [v])) D2=some (.lst (((bb j.segs.length).take (n+1)).map (rB s j af L))):=λv ev=>by
     refine ⟨aB.put s3 RN,?_⟩;rw [ak,dQ ht,aO,ev];rfl
    cases e:iP s j af L (2^(n+1)-1) with
    |none=>
     rw [e] at sv;have sv:y= .fY:=sv;subst sv;exact ⟨rfl,_,rfl,_,rfl,_,h3,hsz,fin .fY (by unfold rB;rw [e];rfl)⟩
    |some r=>
     rw [e] at sv;obtain ⟨a,b',rfl⟩:=pD s j af L _ _ e;obtain ⟨p,rfl,tp⟩:=sv;refine ⟨rfl,_,rfl,_,rfl,?_⟩;exact ⟨_,rfl,p,_,0,_,rfl,rfl, .of (s3 _ _ (s2 _ _ tp)),at_of (j:=0) rfl rfl,_,h3,hsz,fin (.int a) (by unfold rB;rw [e];rfl)⟩
   ·rintro H3 ⟨s3,h3⟩;rw [M8,cp (by rw [bZ];exact ay _)] at h3;exact q H3 D2 ((s1.trans s2).trans s3) ((s1.trans s2).free RN) h3
end
end Lf
namespace Lf
open Vbahaf (rowLess least price firstOf alone allSingles)
def Ag (s:ag) (j:ai) (af:Int) (i:Nat):V:=vO ((price s (firstOf j (i+1)) af).map λr=>r.headD 0)
def Md (s:ag) (j:ai) (af:Int):V:=vO ((price s j af).map λr=>r.headD 0)
def Mc (s:ag) (j:ai) (af:Int) (h8:j.segs.length<=8):(bb j.segs.length).map (rB s j af (lE j.segs.length))=(bb j.segs.length).map (Ag s j af):=by
 refine bP λi hi=>?_;unfold rB Ag;rw [Dd (lB s j af) h8 (by have:=bE.mp hi;omega)];rfl
def FY (s:ag) (j:ai) (af:Int) (h1:1<=j.segs.length):Ag s j af (j.segs.length-1)=Md s j af:=by
 unfold Ag Md;rw [Lp h1,ly]
def CK (s:ag) (j:ai) (af:Int) (h1:1<=j.segs.length) (h8:j.segs.length<=8):rB s j af (zW j.segs.length (oA j.segs.length j.segs.length).length) (j.segs.length-1)=vO (alone (allSingles s j af) j.segs.length 9 0):=by
 unfold rB;rw [Lp h1,zH (FA s j af) (bv _) (by omega)];rfl
def vv {α:Type} (f:Nat->α) {n:Nat} (h:1<=n):((bb n).map f)[((bb n).map f).length-1]?=some (f (n-1)):=by
 rw [ab,bZ,br,hW (by omega)];rfl
def Ai {α:Type} (f:α->Nat): ∀l:List α,(l.map λu=>(f u:Int)).sum=(((l.map f).sum:Nat):Int)
 | []=>rfl
 |a::l=>by
  rw [be,fB,be,fB,Ai f l];omega
def uA (K:aa):Sp:=λvs H Q _=>HQ K vs H λs j af=> ∀(H':Hp) (r:Addr),aB H H'->H' r=some (.lst ((bb j.segs.length).map (Ag s j af)))->Q (.ref r) H'
def Ew (K:aa):Sp:=λvs H Q _=>HQ K vs H λs j af=> ∀(H':Hp),aB H H'->Q (Md s j af) H'
def EK (K:aa):Sp:=λvs H Q _=>HQ K vs H λs j af=> ∀(H':Hp),aB H H'->Q (vO (alone (allSingles s j af) j.segs.length 9 0)) H'
def EI (K:aa):Sp:=λvs H Q _=>HQ K vs H λs j af=> ∀(H':Hp),aB H H'->Q (.int ((Cw s j af).length:Int)) H'
section
variable {P:adT} {w:adQ} {K:aa} {mg:Str->Option Value} {base:adO} {t:CA}
def Ms:bh ["house","kind"] ["house","kind"] (aS (top 100)):=fE
def Nm (D:Dn K mg "least_totals_by_prefix" (top 100) ["house","kind"]) (G1:Fn P w K mg base "find_choices" 8 ["house","kind"] (tT K)) (G2:Fn P w K mg base "prefix_totals" 4 ["choices"] (uB K)):
  Fn P w K mg base "least_totals_by_prefix" 9 ["house","kind"] (uA K):=by
 refine D.fn λf fd F=>F.ok Ms (λvs H Q E h=>?_) (λdD A outer s H vs Q E hr h=>?_)
 ·obtain ⟨_,_,_,_,_,rfl,_⟩:=h;rfl
 ·obtain ⟨h,s,fl,j,af,rfl,hh,hj,hk,q⟩:=h;have h8:j.segs.length<=8:=(hh.ok.jo j hj).ge;refine ⟨_,(aA (aY (pc G2 (hr.mono (by decide)) (ae (pc G1 (hr.mono (by decide)) (ae (pv 0) (ae (pv 1) ax))) ax)))),?_⟩;refine ⟨_,rfl,_,rfl,h,s,fl,j,af,rfl,hh,hj,hk,λH1 l s1 hC=>?_⟩;refine ⟨H,s,j,af,l,_,false,rfl,hC,nV h8,h8,lB s j af,λH2 r s2 nr GU=>?_⟩;rw [Mc s j af h8] at GU;exact q H2 r (s1.trans s2) GU
def Po:bh ["house","kind"] ["house","kind"] (aS (top 101)):=fE
def QF (D:Dn K mg "least_total" (top 101) ["house","kind"]) (G1:Fn P w K mg base "least_totals_by_prefix" 9 ["house","kind"] (uA K)):Fn P w K mg base "least_total" 10 ["house","kind"] (Ew K):=by
 refine D.fn λf fd F=>F.ok Po (λvs H Q E h=>?_) (λdD A outer s H vs Q E hr h=>?_)
 ·obtain ⟨_,_,_,_,_,rfl,_⟩:=h;rfl
 ·obtain ⟨h,s,fl,j,af,rfl,hh,hj,hk,q⟩:=h;have h1:1<=j.segs.length:=(hh.ok.jo j hj).le;refine ⟨_,(aA (aY (bi aZ (pc G1 (hr.mono (by decide)) (ae (pv 0) (ae (pv 1) ax))) (u4 pC aE) (λ_ _=>rfl)))),?_⟩;refine ⟨_,rfl,_,rfl,h,s,fl,j,af,rfl,hh,hj,hk,λH1 r s1 LG=>?_⟩;refine ⟨_,rfl,r,_,_,_,rfl,rfl, .of LG,r9 rfl (vv _ h1),?_⟩;rw [FY s j af h1];exact q H1 s1
def I0:bh ["house","kind"] ["house","kind"] (aS (top 102)):=fE
def KO (D:Dn K mg "least_total_alone" (top 102) ["house","kind"]) (G1:Fn P w K mg base "find_offers" 7 ["house","kind"] (lY K)) (G2:Fn P w K mg base "find_singles" 4 ["house","offered"] (yK K)) (G3:Fn P w K mg base "prefix_totals" 4 ["choices"] (uB K)):
  Fn P w K mg base "least_total_alone" 8 ["house","kind"] (EK K):=by
 refine D.fn λf fd F=>F.ok I0 (λvs H Q E h=>?_) (λdD A outer s H vs Q E hr h=>?_)
 ·obtain ⟨_,_,_,_,_,rfl,_⟩:=h;rfl
 ·obtain ⟨h,s,fl,j,af,rfl,hh,hj,hk,q⟩:=h;have h1:1<=j.segs.length:=(hh.ok.jo j hj).le;have h8:j.segs.length<=8:=(hh.ok.jo j hj).ge;refine ⟨_,(aA (aY (bi aZ (pc G3 (hr.mono (by decide)) (ae (pc G2 (hr.mono (by decide)) (ae (pv 0) (ae (pc G1 (hr.mono (by decide)) (ae (pv 0) (ae (pv 1) ax))) ax))) ax)) (u4 pC aE) (λ_ _=>rfl)))),?_⟩;refine ⟨_,rfl,_,rfl,_,rfl,h,s,fl,j,af,rfl,hh,hj,hk,λH1 lo s1 nlo VQ=>?_⟩;refine ⟨h,s,fl,j,af,lo,_,rfl,hh.mono s1,hj,VQ,λH2 l s2 hC=>?_⟩;refine ⟨H1,s,j,af,l,_,true,rfl,hC,cy (tW h8 _) (by decide),h8,FA s j af,λH3 r s3 nr RC=>?_⟩;refine ⟨_,rfl,r,_,_,_,rfl,rfl, .of RC,r9 rfl (vv _ h1),?_⟩;rw [CK s j af h1 h8];exact q H3 ((s1.trans s2).trans s3)
def k6:bh ["house","kind","choices","ways","mask","choice"] ["house","kind"] (aS (top 103)):=fE
def KM (D:Dn K mg "count_ways" (top 103) ["house","kind"]) (b:Bl mg) (G1:Fn P w K mg base "find_choices" 8 ["house","kind"] (tT K)) (G2:Fn P w K mg base "choices_within" 2 ["choices","mask"] (qv K)):
  Fn P w K mg base "count_ways" 9 ["house","kind"] (EI K):=by
 refine D.fn λf fd F=>F.ok k6 (λvs H Q E h=>?_) (λdD A outer s H vs Q E hr h=>?_)
 ·obtain ⟨_,_,_,_,_,rfl,_⟩:=h;rfl
 ·obtain ⟨h,s,fl,j,af,rfl,hh,hj,hk,q⟩:=h;have h8:j.segs.length<=8:=(hh.ok.jo j hj).ge;have hI:=lB s j af;refine ⟨_,(am (st 2 k6.nd (pc G1 (hr.mono (by decide)) (ae (pv 0) (ae (pv 1) ax))))
   (am (st 3 k6.nd (bK (ae aE ax)))
   (am (dw PassesOwn.never rfl (iL rfl b.range (ae aE (ae (bX y4 aE (i4 b.len (pv 2))) ax))) (gn 4 k6.nd)
    (aA (eO (BJ (pv 3) (d9 (zA rfl) rfl b.sum ig (ae (iD rfl k6.nd (cE (pc G2 (hr.mono (by decide)) (ae (pv 2) (ae (pv 4) ax)))) (cX (own:= [("choice",5)]) (by kernel_rfl))
    (λ_ _ _ _ _=>(gn 5 k6.nd)) (λ_ _ _ _ _=>fw)
    (λ_ _ _ _ _=>(K6 K (pv 3) (bX gd (pv 4) (eF K (pv 5)))))) ax))))))
   (aA (aY (bi aZ (pv 3) (u4 pC aE) (λ_ _=>rfl))))))),?_⟩
  refine ⟨_,rfl,_,rfl,h,s,fl,j,af,rfl,hh,hj,hk,λH1 l s1 hC=>?_⟩;obtain ⟨ls,C⟩:=id hC;obtain ⟨N,hN⟩: ∃N,N=2^j.segs.length:=⟨_,rfl⟩
  have hN8:N<=256:=by rw [hN];exact Jn h8
  have hN1:1<=N:=by rw [hN];exact Lq
  have Ui:(ls.map V.ref).length<=8:=by rw [ab,C.len];exact h8
  have QP:(1:Int)*2^(((ls.map V.ref).length:Nat):Int).toNat=(N:Int):=by rw [yN,ab,C.len,hN]
  let Tl:Nat->Int:=λm=>((T (dh s j af (lE j.segs.length)) eD m).length:Int)
  have Qy:(Cw s j af).length=(T (dh s j af (lE j.segs.length)) eD (N-1)).length:=by rw [hN];exact NQ hI h8
  refine ⟨(by show 1<=sizeLine;decide),λlw E6=>?_⟩;have s2:aB H1 (upd H1 lw (.lst [.int 1])):=aB.new E6;refine ⟨_,rfl,l,_,rfl, .inl (.of (s2 _ _ C.lst)),_,_,rfl,rfl,⟨by omega,by omega,by decide⟩,_,_,rfl,?_,?_⟩
  ·rw [QP];exact ⟨by omega,by omega,by omega,by omega⟩
  ·refine ia (lo:=1) (λk σ H'=>(∃v4 v5,σ= [some (.ref h.a),some (.int af),some (.ref l),some (.ref lw),v4,v5])/\aB H1 H'/\H' lw=some (.lst (((bb (k+1)).map Tl).map V.int))) ⟨⟨_,_,rfl⟩,s2,?_⟩ ?_ ?_
   ·rw [ak];show _=some (HO.lst [V.int (Tl 0)]);have:Tl 0=1:=by
     show ((T (dh s j af (lE j.segs.length)) eD 0).length:Int)=1;rw [Ef];rfl
    rw [this]
   ·rintro k σ H2 hk ⟨⟨v4,v5,rfl⟩,s3,hw⟩;rw [QP] at hk;have em:(1:Int)+(k:Int)=((k+1:Nat):Int):=by omega
    rw [em];refine ⟨_,rfl, .inl ⟨rfl,_, .of hw⟩,_,rfl,_,rfl,H,H1,s,j,af,l,_,k+1,rfl,hC,s3,nV h8,by omega,by rw [<-hN];omega,λH3 r s4 nr zY=>?_⟩;obtain ⟨lR,xc,nL⟩:=zY;have Rz:=s4 _ _ hw;refine ⟨r,rfl,⟨_, .of xc⟩,λD hD=>fO (K:=K) (a:=r) (xs:=lR.map V.ref) (λn H'=>aB H3 H'/\H' D=some (.lst ((((jr (dh s j af (lE j.segs.length)) eD (k+1)).take n).map λu=>Tl (k+1-eD u)).map V.int))) ⟨aB.new hD,ak⟩ (λn H' _ ⟨sm,_⟩=> .of (sm _ _ xc)) ?_ ?_⟩
    ·rintro n x H4 hx ⟨s5,V7⟩;obtain ⟨ca,rm,rfl⟩:=b0 hx;obtain ⟨u,hu,cat⟩:=nL.get' rm;have LC:=aI hu;have RL:=qj LC;have jd:=qk hI.ok LC;have hix:(((bb (k+1)).map Tl).map V.int)[k+1-eD u]?=some (.int (Tl (k+1-eD u))):=by
      rw [br,br,hW (by omega)];rfl
     refine ⟨rfl,_,rfl,_,rfl,_,rfl,aH (cat.mono ((s3.trans s4).trans s5)).vX ⟨_,_,rfl,rfl,lw,_,_,_,rfl,rfl, .of (s5 _ _ Rz),at_of (j:=k+1-eD u) (by omega) hix,_,V7,?_,aB.put s5 hD,?_⟩⟩
     ·rw [ab,ab,bc];have g:(jr (dh s j af (lE j.segs.length)) eD (k+1)).length<=(lE j.segs.length).length:=aV (aN _ _) (aN _ _);have:=nV h8;have:sizeLine=16777216:=adY;omega
     ·rw [ak,dQ hu,aO,aO];rfl
    ·rintro H4 ⟨s5,V7⟩;rw [ab,nL.1,bq] at V7;refine ⟨D,_,rfl, .of V7,lw,_,_,rfl,rfl,s5 _ _ Rz,?_,⟨_,_,rfl⟩,aB.put ((s3.trans s4).trans s5) E6,?_⟩
     ·rw [ab,ab,bZ];have:sizeLine=16777216:=adY;omega
     ·rw [ak,ints_snoc,eh (n:=k+1),aO];have e1:((jr (dh s j af (lE j.segs.length)) eD (k+1)).map λu=>Tl (k+1-eD u)).sum=Tl (k+1):=by
       show _=((T (dh s j af (lE j.segs.length)) eD (k+1)).length:Int)
       rw [U9 hI.ok (by omega)];exact Ai (λu=>(T (dh s j af (lE j.segs.length)) eD (k+1-eD u)).length) _
      rw [e1];simp
   ·rintro σ H2 ⟨⟨v4,v5,rfl⟩,s3,hw⟩;rw [QP] at hw;have e:((N:Int)-1).toNat+1=N:=by omega
    rw [e] at hw;refine ⟨_,rfl,_,rfl,lw,_,_, .int (Tl (N-1)),rfl,rfl, .of hw,r9 rfl ?_,?_⟩
    ·rw [bm];exact vv _ hN1
    ·show Q (.int ((T (dh s j af (lE j.segs.length)) eD (N-1)).length:Int)) H2;rw [<-Qy];exact q H2 (s1.trans s3)
end
end Lf
namespace Lf
open Vbahaf (rowLess least price firstOf alone allSingles taxesOf)
def gb (K:aa) (ok:List Int->List Int->Prop) (g:ag->ai->List Int->List Int->List Int):Sp:=λvs H Q _=> ∃(h:HA) (s:ag) (fl:List aq) (j:ai) (ln lw:Addr) (ns rw:List Int),vs= [.ref h.a, .ref ln, .ref lw]/\ba K H h s fl/\s.journey=some j/\H ln=some (.lst (ns.map V.int))/\H lw=some (.lst (rw.map V.int))/\ok ns rw/\
 ∀(H':Hp) (l:Addr),aB H H'->H l=none->H' l=some (.lst ((g s j ns rw).map V.int))->Q (.ref l) H'
def nB (ns rw:List Int):Prop:= ∃af:Int,ns= [af]/\0<=af/\af<=4
def vG (s:ag) (j:ai) (ns rw:List Int):List Int:=match price s j (ns.getD 0 0) with
 |none=> [-7]
 |some r=>0::r
def vK (s:ag) (j:ai) (ns rw:List Int):List Int:=match alone (allSingles s j (ns.getD 0 0)) j.segs.length 9 0 with
 |none=> [-7]
 |some t=> [0,t]
def DR (s:ag) (j:ai) (ns rw:List Int):List Int:= [0,((Cw s j (ns.getD 0 0)).length:Int)]
def Kf (s:ag) (j:ai) (ns rw:List Int):List Int:=0::(bb j.segs.length).map λm=>match price s (firstOf j (m+1)) (ns.getD 0 0) with
 |none=> -1
 |some r=>r.headD 0
def Ke (s:ag) (j:ai) (ns rw:List Int):List Int:=0::j.now::taxesOf s j::(j.segs.length:Int)::j.segs.flatMap λg=> [g.carrier,g.src,g.dst,g.day,g.cls]
def xz (s:ag) (a:Int):Int:=match s.taxes.find? λt=>decide (t.1=a) with
 |some t=>t.2
 |none=>0
def lx: ∀(l:List Int) (a:Int),l.foldl (λa b=>a+b) a=a+l.sum
 | [],a=>by simp
 |x::l,a=>by
  rw [ox,lx l (a+x),fB];omega
def F4 (s:ag) (j:ai):taxesOf s j=(j.segs.map λg=>xz s g.src).sum:=by
 unfold taxesOf;rw [lx];exact oy _
def ba.xz {K:aa} {H:Hp} {h:HA} {s:ag} {fl:List aq} (x:ba K H h s fl): ∃kvs:List (Key×V),H h.x=some (.dK kvs)/\∀a:Int,(cx kvs (az a)).getD (.int 0)= .int (Lf.xz s a):=by
 obtain ⟨kvs,h1,h2⟩:=x.taxes;have nd:(kvs.map (·.1)).Nodup:=by
  refine (h2.map _).nodup_iff.mpr ?_;rw [bm];have:=gE (f:=λx:Int=>(az x:Key)) (λa b e=>cY e) x.ok.ts;rw [bm] at this;exact this
 refine ⟨kvs,h1,λa=>?_⟩;unfold Lf.xz;cases q:s.taxes.find? λt=>decide (t.1=a) with
 |some t=>
  have e1:t.1=a:=by simpa using gk q
  have hm:=cZ q;have:=qr nd (h2.mem_iff.mpr (aj.mpr ⟨t,hm,rfl⟩));rw [e1] at this;rw [this];rfl
 |none=>
  rw [dO] at q;cases z:cx kvs (az a) with
  |none=>rfl
  |some v=>
   have:=h2.mem_iff.mp (qp z);obtain ⟨t,hm,e⟩:=aj.mp this;have e1:t.1=a:=cY (gG e).1;exact absurd (by simpa using e1) (q t hm)
def yJ (K:aa):Sp:=λvs H Q _=> ∃(h:HA) (s:ag) (fl:List aq) (j:ai),vs= [.ref h.a]/\ba K H h s fl/\s.journey=some j/\∀H',aB H H'->Q (.int (taxesOf s j)) H'
section
variable {P:adT} {w:adQ} {K:aa} {mg:Str->Option Value} {base:adO} {t:CA}
def uO:bh ["house","segment"] ["house"] (aS (top 107)):=fE
def Kq (D:Dn K mg "journey_taxes" (top 107) ["house"]) (b:Bl mg):Fn P w K mg base "journey_taxes" 1 ["house"] (yJ K):=by
 refine D.fn λf fd F=>F.ok uO (λvs H Q E h=>?_) (λdD A outer s H vs Q E hr h=>?_)
 ·obtain ⟨_,_,_,_,rfl,_⟩:=h;rfl
 ·obtain ⟨h,s,fl,j,rfl,hh,hj,q⟩:=h;have hu:=jP hr;obtain ⟨ja,fj,GQ⟩:=hh.dS hj;obtain ⟨Bq,l,as,RG,Fp,hl,hs,_⟩:=GQ;have h8:j.segs.length<=8:=(hh.ok.jo j hj).ge;obtain ⟨kvs,hx,ht⟩:=hh.xz;refine ⟨_,(aA (aY (d9 (zA rfl) rfl b.sum ig (ae (iD rfl uO.nd (cE (aT (aT (pv 0) rfl) rfl)) (cX (own:= [("segment",1)]) (by kernel_rfl))
    (λ_ _ _ _ _=>(gn 1 uO.nd)) (λ_ _ _ _ _=>fw)
    (λ_ _ _ _ _=>(qD hu (eF K (pv 0)) (eF K (pv 1)) aE ⟨rfl,rfl,rfl,rfl⟩))) ax)))),?_⟩
  refine ⟨_,rfl,aH fj (aH Fp ⟨l,rfl,⟨_, .of hl⟩,λD hD=>fO (K:=K) (a:=l) (xs:=as.map V.ref) (λn H'=>aB H H'/\H' D=some (.lst (((j.segs.take n).map λg=>xz s g.src).map V.int))) ⟨aB.new hD,ak⟩ (λn H' _ ⟨sm,_⟩=> .of (sm _ _ hl)) ?_ ?_⟩)⟩
  ·rintro n y H1 hy ⟨s1,h1⟩;obtain ⟨a,ha,rfl⟩:=b0 hy;obtain ⟨g,hg,sa⟩:=hs.get' ha;refine ⟨rfl,_,rfl,aH (hh.KU.mono s1) ⟨h.x,rfl, .inl ⟨_, .inl (s1 _ _ hx)⟩,_,rfl,aH (sa.mono s1).origin ⟨_,j7.k (k:=az g.src) (s1 _ _ hx),?_⟩⟩⟩;rw [ht];refine ⟨_,h1,?_,aB.put s1 hD,?_⟩
   ·rw [ab,ab,bc];have:sizeLine=16777216:=adY;omega
   ·rw [ak,dQ hg,aO,aO];rfl
  ·rintro H1 ⟨s1,h1⟩;rw [ab,hs.1,bq] at h1;refine ⟨D,_,rfl, .of h1,?_⟩;rw [<-F4];exact q H1 s1
def xG:bh ["house","numbers","row","pricing"] ["house","numbers","row"] (aS (top 106)):=fE
def Ha (D:Dn K mg "tell_price" (top 106) ["house","numbers","row"]) (c:Cs mg) (G:Fn P w K mg base "least_pricing" 9 ["house","kind"] (xC K)):Fn P w K mg base "tell_price" 10 ["house","numbers","row"] (gb K nB vG):=by
 refine D.fn λf fd F=>F.ok xG (λvs H Q E h=>?_) (λdD A outer s H vs Q E hr h=>?_)
 ·obtain ⟨_,_,_,_,_,_,_,_,rfl,_⟩:=h;rfl
 ·obtain ⟨h,s,fl,j,ln,lw,ns,rw,rfl,hh,hj,hn,hw,⟨af,rfl,hk⟩,q⟩:=h;refine ⟨_,(am (st 3 xG.nd (pc G (hr.mono (by decide)) (ae (pv 0) (ae (bi aZ (pv 1) aE (λ_ _=>rfl)) ax))))
   (am (cF (gc (jM (pv 3)))
    (aA (aY (bK (ae (kG c.qR) ax))))
    bI)
   (aA (aY (bX pP (bK (ae aE ax)) (pv 3)))))),?_⟩
  refine ⟨_,rfl,_,rfl,ln,_,0,_,rfl,rfl, .of hn,at_of (j:=0) rfl rfl,h,s,fl,j,af,rfl,hh,hj,hk,λH1 s1 hp=>?_,λH1 l r s1 hp hlen hl=>?_⟩
  ·refine ⟨_,rfl,_,rfl,(by show 1<=sizeLine;decide),λl hl=>q _ l (s1.trans (aB.new hl)) (s1.free hl) ?_⟩;rw [ak];unfold vG;rw [show ([af]:List Int).getD 0 0=af from rfl,hp];rfl
  ·refine ⟨_,rfl,_,rfl,?_⟩;refine ⟨(by show 1<=sizeLine;decide),λl0 n0=>⟨_,rfl,l0,l,_,_,rfl,rfl,ak,aB.new n0 _ _ hl,?_,λlz nz=>q _ lz ((s1.trans (aB.new n0)).trans (aB.new nz)) ((s1.trans (aB.new n0)).free nz) ?_⟩⟩
   ·rw [ab];have:sizeLine=16777216:=adY;show 1+r.length<=sizeLine;omega
   ·rw [ak];unfold vG;rw [show ([af]:List Int).getD 0 0=af from rfl,hp];rfl
def xH:bh ["house","numbers","row","total"] ["house","numbers","row"] (aS (top 115)):=fE
def Hg (D:Dn K mg "tell_alone" (top 115) ["house","numbers","row"]) (c:Cs mg) (G:Fn P w K mg base "least_total_alone" 8 ["house","kind"] (EK K)):Fn P w K mg base "tell_alone" 9 ["house","numbers","row"] (gb K nB vK):=by
 refine D.fn λf fd F=>F.ok xH (λvs H Q E h=>?_) (λdD A outer s H vs Q E hr h=>?_)
 ·obtain ⟨_,_,_,_,_,_,_,_,rfl,_⟩:=h;rfl
 ·obtain ⟨h,s,fl,j,ln,lw,ns,rw,rfl,hh,hj,hn,hw,⟨af,rfl,hk⟩,q⟩:=h;refine ⟨_,(am (st 3 xH.nd (pc G (hr.mono (by decide)) (ae (pv 0) (ae (bi aZ (pv 1) aE (λ_ _=>rfl)) ax))))
   (am (cF (gc (jM (pv 3)))
    (aA (aY (bK (ae (kG c.qR) ax))))
    bI)
   (aA (aY (bK (ae aE (ae (pv 3) ax))))))),?_⟩
  refine ⟨_,rfl,_,rfl,ln,_,0,_,rfl,rfl, .of hn,at_of (j:=0) rfl rfl,h,s,fl,j,af,rfl,hh,hj,hk,λH1 s1=>?_⟩;cases e:alone (allSingles s j af) j.segs.length 9 0 with
  |none=>
   refine ⟨_,rfl,_,rfl,(by show 1<=sizeLine;decide),λl hl=>q _ l (s1.trans (aB.new hl)) (s1.free hl) ?_⟩;rw [ak];unfold vK;rw [show ([af]:List Int).getD 0 0=af from rfl,e];rfl
  |some a=>
   refine ⟨_,rfl,_,rfl,?_⟩;refine ⟨_,rfl,(by show 2<=sizeLine;decide),λl hl=>q _ l (s1.trans (aB.new hl)) (s1.free hl) ?_⟩;rw [ak];unfold vK;rw [show ([af]:List Int).getD 0 0=af from rfl,e];rfl
def Gc:bh ["house","numbers","row"] ["house","numbers","row"] (aS (top 116)):=fE
def He (D:Dn K mg "tell_count" (top 116) ["house","numbers","row"]) (G:Fn P w K mg base "count_ways" 9 ["house","kind"] (EI K)):Fn P w K mg base "tell_count" 10 ["house","numbers","row"] (gb K nB DR):=by
 refine D.fn λf fd F=>F.ok Gc (λvs H Q E h=>?_) (λdD A outer s H vs Q E hr h=>?_)
 ·obtain ⟨_,_,_,_,_,_,_,_,rfl,_⟩:=h;rfl
 ·obtain ⟨h,s,fl,j,ln,lw,ns,rw,rfl,hh,hj,hn,hw,⟨af,rfl,hk⟩,q⟩:=h;refine ⟨_,(aA (aY (bK (ae aE (ae (pc G (hr.mono (by decide)) (ae (pv 0) (ae (bi aZ (pv 1) aE (λ_ _=>rfl)) ax))) ax))))),?_⟩;refine ⟨_,rfl,_,rfl,ln,_,0,_,rfl,rfl, .of hn,at_of (j:=0) rfl rfl,h,s,fl,j,af,rfl,hh,hj,hk,λH1 s1=>⟨(by show 2<=sizeLine;decide),λl hl=>q _ l (s1.trans (aB.new hl)) (s1.free hl) ak⟩⟩
def qw:bh ["house","numbers","row","totals","total"] ["house","numbers","row"] (aS (top 117)):=fE
def Kk (D:Dn K mg "tell_prefixes" (top 117) ["house","numbers","row"]) (c:Cs mg) (G:Fn P w K mg base "least_totals_by_prefix" 9 ["house","kind"] (uA K)):Fn P w K mg base "tell_prefixes" 10 ["house","numbers","row"] (gb K nB Kf):=by
 refine D.fn λf fd F=>F.ok qw (λvs H Q E h=>?_) (λdD A outer s H vs Q E hr h=>?_)
 ·obtain ⟨_,_,_,_,_,_,_,_,rfl,_⟩:=h;rfl
 ·obtain ⟨h,s,fl,j,ln,lw,ns,rw,rfl,hh,hj,hn,hw,⟨af,rfl,hk⟩,q⟩:=h;have h8:j.segs.length<=8:=(hh.ok.jo j hj).ge;let fI:Nat->Int:=λm=>match price s (firstOf j (m+1)) af with
   |none=> -1
   |some r=>r.headD 0
  refine ⟨_,(am (st 3 qw.nd (pc G (hr.mono (by decide)) (ae (pv 0) (ae (bi aZ (pv 1) aE (λ_ _=>rfl)) ax))))
   (aA (aY (bX pP (bK (ae aE ax)) (iD rfl qw.nd (cE (pv 3)) (cX (own:= [("total",4)]) (by kernel_rfl))
    (λ_ _ _ _ _=>(gn 4 qw.nd)) (λ_ _ _ _ _=>fw)
    (λ_ _ _ _ _=>(A1 (gc (jM (pv 4))) (kG c.Lj) (pv 4)))))))),?_⟩
  refine ⟨_,rfl,_,rfl,ln,_,0,_,rfl,rfl, .of hn,at_of (j:=0) rfl rfl,h,s,fl,j,af,rfl,hh,hj,hk,λH1 r s1 LG=>?_⟩;refine ⟨(by show 1<=sizeLine;decide),λl0 n0=>?_⟩;have s2:aB H1 (upd H1 l0 (.lst [.int 0])):=aB.new n0;refine ⟨_,rfl,r,rfl,⟨_, .of (s2 _ _ LG)⟩,λD hD=>fO (K:=K) (a:=r) (xs:=(bb j.segs.length).map (Ag s j af)) (λn H'=>aB (upd H1 l0 (.lst [.int 0])) H'/\H' D=some (.lst ((((bb j.segs.length).take n).map fI).map V.int))) ⟨aB.new hD,ak⟩ (λn H' _ ⟨sm,_⟩=> .of (sm _ _ (s2 _ _ LG))) ?_ ?_⟩
  ·rintro n y H2 hy ⟨s3,h2⟩;have VS:n<j.segs.length:=by
    have:=(aK.mp hy).1;rw [ab,bZ] at this;exact this
   rw [br,hW VS] at hy;have hy:Ag s j af n=y:=bx hy;have ht:(bb j.segs.length)[n]?=some n:=hW VS;have hsz:((((bb j.segs.length).take n).map fI).map V.int).length<sizeLine:=by
    rw [ab,ab,bc,bZ];have:sizeLine=16777216:=adY;omega
   have fin: ∀v,v=V.int (fI n)->aB (upd H1 l0 (.lst [.int 0])) (upd H2 D (.lst ((((bb j.segs.length).take n).map fI).map V.int++ [v])))/\upd H2 D (.lst ((((bb j.segs.length).take n).map fI).map V.int++ [v])) D=some (.lst ((((bb j.segs.length).take (n+1)).map fI).map V.int)):=λv ev=>by
    refine ⟨aB.put s3 hD,?_⟩;rw [ak,dQ ht,aO,aO,ev];rfl
   subst hy;unfold Ag;cases e:price s (firstOf j (n+1)) af with
   |none=>exact ⟨rfl,_,rfl,_,rfl,_,h2,hsz,fin (.int (-1)) (by show _=V.int (match price s (firstOf j (n+1)) af with|none=> -1|some r=>r.headD 0);rw [e])⟩
   |some r0=>
    refine ⟨rfl,_,rfl,_,rfl,?_⟩;exact ⟨_,rfl,_,h2,hsz,fin (.int (r0.headD 0)) (by show _=V.int (match price s (firstOf j (n+1)) af with|none=> -1|some r=>r.headD 0);rw [e])⟩
  ·rintro H2 ⟨s3,h2⟩;rw [ab,bZ,cp (by rw [bZ];exact ay _)] at h2;refine ⟨l0,D,_,_,rfl,rfl,s3 _ _ ak,h2,?_,λlz nz=>q _ lz (((s1.trans s2).trans s3).trans (aB.new nz)) (((s1.trans s2).trans s3).free nz) ak⟩;rw [ab,ab,bZ];have:sizeLine=16777216:=adY;show 1+j.segs.length<=sizeLine;omega
end
end Lf
namespace Lf
open Vbahaf (rowLess least price firstOf alone allSingles taxesOf fareOf fareNumbers)
def sr {κ:Type} [DecidableEq κ] {kvs:List (κ×V)} {k:κ} (h: ∀x∈kvs,x.1≠k):cx kvs k=none:=by
 cases e:cx kvs k with
 |none=>rfl
 |some v=>exact absurd rfl (h _ (qp e))
structure zQ (K:aa) (H:Hp) (s:ag) (kvs:List (Key×V)):Prop where
 len:kvs.length=s.fares.length
 keys: ∀x∈kvs, ∃i:Int,x.1=az i
 perm:(kvs.map λx=>zi x.1).Perm (s.fares.map λf=>f.key)
 none_: ∀k,fareOf s k=none->cx kvs (az k)=none
 xD: ∀k f,fareOf s k=some f->∃fa,cx kvs (az k)=some (.ref fa)/\dB K H fa f/\∃z,wc K H z f fa
def ba.vN {K:aa} {H:Hp} {h:HA} {s:ag} {fl:List aq} (x:ba K H h s fl): ∃kvs:List (Key×V),H h.f=some (.dK kvs)/\zQ K H s kvs:=by
 obtain ⟨gO,h1,h2,h3⟩:=x.fares;have hlen:fl.length=gO.length:=h2.1;have K3:(GO fl gO).map (λx=>x.1)=fl.map λf=>(az f.key:Key):=by
  unfold GO;rw [bm];have:(fl.zip gO).map (λx=>x.1)=fl:=by rw [uh];omega
  conv=>rhs;rw [<-this]
  rw [bm];rfl
 have hN:((GO fl gO).map (·.1)).Nodup:=by
  rw [K3];have hk:(fl.map λf=>f.key).Nodup:=(x.perm.map _).nodup_iff.mpr (by
   have:=x.ok.fs;rw [WI,dE];exact this.imp λ{a b} h=>by omega)
  have:=gE (f:=λx:Int=>(az x:Key)) (λa b e=>cY e) hk;rw [bm] at this;exact this
 refine ⟨_,h1,?_,λy hy=>?_,?_,λk hk=>?_,λk f hf=>?_⟩
 ·unfold GO;rw [ab,eA, <-hlen,tN,x.perm.length_eq]
 ·unfold GO at hy;obtain ⟨z,_,rfl⟩:=aj.mp hy;exact ⟨_,rfl⟩
 ·have e:((GO fl gO).map λx=>zi x.1)=fl.map λf=>f.key:=by
   have:=congrArg (List.map zi) K3;rw [bm,bm] at this;exact this
  rw [e];exact x.perm.map _
 ·refine sr λy hy e=>?_;have hm:y.1∈(GO fl gO).map (·.1):=aj.mpr ⟨y,hy,rfl⟩;rw [K3,e] at hm;obtain ⟨f,hf,e⟩:=aj.mp hm;exact sI.mp hk f (x.perm.mem_iff.mp hf) (cY e)
 ·obtain ⟨hm,rfl⟩:=(i3 x.ok).mp hf;obtain ⟨i,hi⟩:=dL.mp (x.perm.mem_iff.mpr hm);obtain ⟨fa,Qu,rT⟩:=h2.get' hi;refine ⟨fa,qr hN ?_,rT,_,h3.2 i f fa hi Qu⟩;unfold GO;exact aj.mpr ⟨(f,fa),aI (cf.mpr ⟨hi,Qu⟩),rfl⟩
def Ez (K:aa):Sp:=λvs H Q _=> ∃(h:HA) (s:ag) (fl:List aq) (ln lw:Addr),vs= [.ref h.a, .ref ln, .ref lw]/\ba K H h s fl/\
 ∀(H':Hp) (l:Addr),aB H H'->H l=none->H' l=some (.lst ((0::(s.fares.length:Int)::s.fares.flatMap fareNumbers).map V.int))->Q (.ref l) H'
def JC (ns rw:List Int):Prop:=True
def Au {s:ag} (ok:kM s) {ns:List Int} (hp:ns.Perm (s.fares.map λf=>f.key)) (hs:ns.Pairwise (· <= ·)):ns=s.fares.map λf=>f.key:=by
 refine hp.eq_of_pairwise (le:=λa b:Int=>a<=b) (λa b _ _ h1 h2=>by omega) hs ?_;rw [dE];exact ok.fs.imp λ{a b} h=>by omega
section
variable {P:adT} {w:adQ} {K:aa} {mg:Str->Option Value} {base:adO} {t:CA}
def uM:bh ["house","numbers","row","told","segment"] ["house","numbers","row"] (aS (top 119)):=fE
def Kn (D:Dn K mg "tell_journey" (top 119) ["house","numbers","row"]) (b:Bl mg) (G:Fn P w K mg base "journey_taxes" 1 ["house"] (yJ K)):Fn P w K mg base "tell_journey" 2 ["house","numbers","row"] (gb K JC Ke):=by
 refine D.fn λf fd F=>F.ok uM (λvs H Q E h=>?_) (λdD A outer s H vs Q E hr h=>?_)
 ·obtain ⟨_,_,_,_,_,_,_,_,rfl,_⟩:=h;rfl
 ·obtain ⟨h,s,fl,j,ln,lw,ns,rw,rfl,hh,hj,hn,hw,_,q⟩:=h;obtain ⟨ja,fj,GQ⟩:=hh.dS hj;obtain ⟨Bq,l,as,RG,Fp,hl,hs,Yf⟩:=GQ;have h8:j.segs.length<=8:=(hh.ok.jo j hj).ge;refine ⟨_,(am (st 3 uM.nd (bK (ae aE (ae (aT (aT (pv 0) rfl) rfl) (ae (pc G (hr.mono (by decide)) (ae (pv 0) ax)) (ae (i4 b.len (aT (aT (pv 0) rfl) rfl)) ax))))))
   (am (dw PassesOwn.never rfl (cE (aT (aT (pv 0) rfl) rfl)) (gn 4 uM.nd)
    (aA (eO (D0 (pv 3) (aT (pv 4) rfl)))))
   (aA (aY (pv 3))))),?_⟩
  refine ⟨_,rfl,aH fj (aH Bq ⟨_,rfl,h,s,fl,j,rfl,hh,hj,λH1 s1=>⟨_,rfl,aH (fj.mono s1) (aH (Fp.mono s1) ⟨l,_,rfl, .inl (.of (s1 _ _ hl)),(by show 4<=sizeLine;decide),λlt PN=>?_⟩)⟩⟩)⟩;have nt:H lt=none:=s1.free PN;have s2:aB H (upd H1 lt (.lst [.int 0, .int j.now, .int (taxesOf s j), .int ((as.map V.ref).length:Nat)])):=aB.put s1 nt;refine ⟨_,rfl,aH (fj.mono s2) (aH (Fp.mono s2) ⟨l,rfl,⟨_, .of (s2 _ _ hl)⟩,fc (K:=K) (a:=l) (xs:=as.map V.ref) (λn σ H'=>(∃v4,σ= [some (.ref h.a),some (.ref ln),some (.ref lw),some (.ref lt),v4])/\aB H H'/\H' lt=some (.lst ((0::j.now::taxesOf s j::(j.segs.length:Int)::(j.segs.take n).flatMap fL).map V.int))) ⟨⟨_,rfl⟩,s2,?_⟩ (λn σ H' _ ⟨_,sm,_⟩=> .of (sm _ _ hl)) ?_ ?_⟩)⟩
  ·rw [ak,ab,hs.1];rfl
  ·rintro n x σ H2 hx ⟨⟨v4,rfl⟩,s3,h2⟩;obtain ⟨a,ha,rfl⟩:=b0 hx;obtain ⟨g,hg,lg,_,fg,Ym⟩:=Yf.get' ha;refine ⟨_,rfl, .inl ⟨rfl,_, .of h2⟩,_,rfl,aH (fg.mono s3) ⟨lt,lg,_,_,rfl,rfl,h2,s3 _ _ Ym,?_,⟨_,rfl⟩,aB.put s3 nt,?_⟩⟩
   ·have g1:=gW (f:=fL) (k:=5) (l:=j.segs.take n) λ_ _=>ay _;rw [bc] at g1;rw [ab,ab];simp only [aR];have g2:(fL g).length=5:=rfl;have:sizeLine=16777216:=adY;omega
   ·rw [ak,dQ hg,cc, <-aO];simp
  ·rintro σ H2 ⟨⟨v4,rfl⟩,s3,h2⟩;rw [ab,hs.1,bq] at h2;exact ⟨_,rfl,q H2 lt s3 nt h2⟩
def rG:bh ["house","numbers","row","told","key"] ["house","numbers","row"] (aS (top 118)):=fE
def Hd (D:Dn K mg "tell_fares" (top 118) ["house","numbers","row"]) (b:Bl mg):Fn P w K mg base "tell_fares" 1 ["house","numbers","row"] (Ez K):=by
 refine D.fn λf fd F=>F.ok rG (λvs H Q E h=>?_) (λdD A outer s H vs Q E hr h=>?_)
 ·obtain ⟨_,_,_,_,_,rfl,_⟩:=h;rfl
 ·obtain ⟨h,s,fl,ln,lw,rfl,hh,q⟩:=h;have hu:=jP hr;obtain ⟨kvs,hf,fd⟩:=hh.vN;have xf:=hh.ok.fl;refine ⟨_,(am (st 3 rG.nd (bK (ae aE (ae (K5 b.len (aT (pv 0) rfl)) ax))))
   (am (dw PassesOwn.never rfl (cE (d9 (D3 rfl) rfl b.sorted jG (ae (aT (pv 0) rfl) ax))) (gn 4 rG.nd)
    (aA (eO (D0 (pv 3) (aT (oH hu (aT (pv 0) rfl) (pv 4) (λ_ _=>rfl)) rfl)))))
   (aA (aY (pv 3))))),?_⟩
  refine ⟨_,rfl,aH hh.hZ ⟨h.f,kvs,rfl,hf,(by show 2<=sizeLine;decide),λlt nt=>?_⟩⟩;have s1:aB H (upd H lt (.lst [.int 0, .int (kvs.length:Nat)])):=aB.new nt;refine ⟨_,rfl,aH (hh.hZ.mono s1) ⟨h.f,kvs,rfl, .inl (s1 _ _ hf),by rw [fd.len];omega,fd.keys,λns p mD sG np=>?_⟩⟩;have en:=Au hh.ok (mD.trans fd.perm) sG;subst en;have s2:=s1.trans (aB.new (o:= .lst ((s.fares.map λf=>f.key).map V.int)) np);have Zv:p≠lt:=λe=>by rw [e,ak] at np;cases np
  have np':H p=none:=s1.free np;refine ⟨p,rfl,⟨_, .of ak⟩,fc (K:=K) (a:=p) (xs:=(s.fares.map λf=>f.key).map V.int) (λn σ H'=>(∃v4,σ= [some (.ref h.a),some (.ref ln),some (.ref lw),some (.ref lt),v4])/\aB H H'/\H' p=some (.lst ((s.fares.map λf=>f.key).map V.int))/\H' lt=some (.lst ((0::(s.fares.length:Int)::(s.fares.take n).flatMap fareNumbers).map V.int))) ⟨⟨_,rfl⟩,s2,ak,?_⟩ (λn σ H' _ ⟨_,_,z,_⟩=> .of z) ?_ ?_⟩
  ·rw [bL Zv.symm,ak,fd.len];rfl
  ·rintro n x σ H2 hx ⟨⟨v4,rfl⟩,s3,GV,h2⟩;obtain ⟨k,hk,rfl⟩:=ints_get hx;rw [br] at hk;cases e:s.fares[n]? with
   |none=>rw [e] at hk;cases hk
   |some f=>
    rw [e] at hk;cases hk;have hm:=aI e;obtain ⟨fa,e1,rT,_,lf,_,e2,e3⟩:=fd.xD f.key f ((i3 hh.ok).mpr ⟨hm,rfl⟩);refine ⟨_,rfl, .inl ⟨rfl,_, .of h2⟩,_,rfl,aH (hh.hZ.mono s3) ⟨_,rfl,h.f,_,rfl, .inl ⟨kvs,az f.key, .inl (s3 _ _ hf),rfl,e1.symm⟩,aH (e2.mono s3) ⟨lt,lf,_,_,rfl,rfl,h2,s3 _ _ e3,?_,⟨_,rfl⟩,aB.put s3 nt,bp GV Zv,?_⟩⟩⟩
    ·have g1:=gW (f:=fareNumbers) (k:=15) (l:=s.fares.take n) λ_ _=>ay _;rw [bc] at g1;rw [ab,ab];simp only [aR];have g2:(fareNumbers f).length=15:=rfl;have:sizeLine=16777216:=adY;omega
    ·rw [ak,dQ e,cc, <-aO];simp
  ·rintro σ H2 ⟨⟨v4,rfl⟩,s3,GV,h2⟩;rw [ab,ab,bq] at h2;exact ⟨_,rfl,q H2 lt s3 nt h2⟩
def uG (K:aa):Sp:=λvs H Q _=> ∃(h:HA) (s:ag) (fl:List aq) (j:ai) (i e:Int),vs= [.ref h.a, .int i, .int e]/\ba K H h s fl/\s.journey=some j/\Q (.bl (decide (i<=e)&&decide (e<=(j.segs.length:Int)))) H
def Gg:bh ["house","first","last"] ["house","first","last"] (aS (top 109)):=fE
def Hk (D:Dn K mg "is_component" (top 109) ["house","first","last"]) (b:Bl mg):Fn P w K mg base "is_component" 1 ["house","first","last"] (uG K):=by
 refine D.fn λf fd F=>F.ok Gg (λvs H Q E h=>?_) (λdD A outer s H vs Q E hr h=>?_)
 ·obtain ⟨_,_,_,_,_,_,rfl,_⟩:=h;rfl
 ·obtain ⟨h,s,fl,j,i,e,rfl,hh,hj,q⟩:=h;obtain ⟨ja,fj,GQ⟩:=hh.dS hj;obtain ⟨Bq,l,as,RG,Fp,hl,hs,Yf⟩:=GQ;refine ⟨_,(aA (aY (eI (dM vc (pv 1) (pv 2) (bR _)) (jL (dM vc (pv 2) (i4 b.len (aT (aT (pv 0) rfl) rfl)) (bR _)))))),?_⟩;refine ⟨_,rfl,_,rfl,_,_,rfl,rfl,_,rfl,?_⟩;refine iB (λe1=>?_) (λe1=>ck q (by rw [e1];rfl));refine ⟨_,rfl,_,rfl,aH fj (aH Fp ⟨l,_,rfl, .inl (.of hl),_,_,rfl,rfl,?_⟩)⟩;refine ck q ?_;rw [e1,ab,hs.1];rfl
def EE (K:aa):Sp:=λvs H Q _=> ∃(h:HA) (s:ag) (fl:List aq) (j:ai) (i e p q:Int),vs= [.ref h.a, .int i, .int e, .int p, .int q]/\ba K H h s fl/\s.journey=some j/\Q (.bl ((decide (i<=e)&&decide (e<=(j.segs.length:Int)))&&((decide (p<=q)&&decide (q<=(j.segs.length:Int)))&&decide (e<p)))) H
def IU:bh ["house","first","last","second_first","second_last"] ["house","first","last","second_first","second_last"] (aS (top 112)):=fE
def KC (D:Dn K mg "are_components_in_order" (top 112) ["house","first","last","second_first","second_last"]) (G:Fn P w K mg base "is_component" 1 ["house","first","last"] (uG K)):Fn P w K mg base "are_components_in_order" 2 ["house","first","last","second_first","second_last"] (EE K):=by
 refine D.fn λf fd F=>F.ok IU (λvs H Q E h=>?_) (λdD A outer s H vs Q E hr h=>?_)
 ·obtain ⟨_,_,_,_,_,_,_,_,rfl,_⟩:=h;rfl
 ·obtain ⟨h,s,fl,j,i,e,p,q',rfl,hh,hj,q⟩:=h;refine ⟨_,(aA (aY (eI (pc G (hr.mono (by decide)) (ae (pv 0) (ae (pv 1) (ae (pv 2) ax)))) (eI (pc G (hr.mono (by decide)) (ae (pv 0) (ae (pv 3) (ae (pv 4) ax)))) (jL (dM xP (pv 2) (pv 3) (bR _))))))),?_⟩;refine ⟨_,rfl,_,rfl,_,rfl,h,s,fl,j,i,e,rfl,hh,hj,_,rfl,?_⟩;refine iB (λe1=>?_) (λe1=>ck q (by rw [e1];rfl));refine ⟨_,rfl,_,rfl,_,rfl,h,s,fl,j,p,q',rfl,hh,hj,_,rfl,?_⟩;refine iB (λe2=>?_) (λe2=>ck q (by rw [e1,e2];rfl));refine ⟨_,rfl,_,rfl,_,_,rfl,rfl,?_⟩;refine ck q ?_;rw [e1,e2];rfl
def rE (K:aa):Sp:=λvs H Q _=> ∃(h:HA) (s:ag) (fl:List aq) (j:ai) (af i e:Int),vs= [.ref h.a, .int af, .int i, .int e]/\ba K H h s fl/\s.journey=some j/\(0<=af/\af<=4)/\1<=i/\i<=e/\e<=(j.segs.length:Int)/\
 ∀(H':Hp) (x:Addr) (B:Addr->Prop),aB H H'->dA K H' B s fl j af (i-1).toNat e.toNat x->Q (.ref x) H'
def Mz:bh ["house","kind","first","last"] ["house","kind","first","last"] (aS (top 110)):=fE
def NE (D:Dn K mg "offers_between" (top 110) ["house","kind","first","last"]) (G1:Cl P w K mg base "Component" t.cN 2 ["self","house","first","last"] (yL K t.cN)) (G2:Cl P w K mg base "Offers" t.iw 5 ["self","house","kind","component"] (uD K t.iw)):
  Fn P w K mg base "offers_between" 7 ["house","kind","first","last"] (rE K):=by
 refine D.fn λf fd F=>F.ok Mz (λvs H Q E h=>?_) (λdD A outer s H vs Q E hr h=>?_)
 ·obtain ⟨_,_,_,_,_,_,_,rfl,_⟩:=h;rfl
 ·obtain ⟨h,s,fl,j,af,i,e,rfl,hh,hj,hk,h1,h2,h3,q⟩:=h;refine ⟨_,(aA (aY (Ly G2 (hr.mono (by decide)) (ae (pv 0) (ae (pv 1) (ae (Ly G1 (hr.mono (by decide)) (ae (pv 0) (ae (bX gd (pv 2) aE) (ae (bX gd (pv 3) aE) ax)))) ax)))))),?_⟩;refine ⟨_,rfl,_,rfl,_,rfl,_,rfl,_,_,rfl,rfl,_,rfl,_,_,rfl,rfl,λx dx nx tj PP=>?_⟩;refine ⟨x,dx,H,h,s,fl,j,(i-1).toNat,e.toNat,_,_,rfl,by show i-1=_;omega,by show e-1=_;omega,ak,dY nx tj,nx,hh,hj,by omega,by omega,λH3 s3 c3=>⟨rfl,λy dy ny VH ney=>?_⟩⟩;refine ⟨y,dy,x,H3,h,s,fl,j,(i-1).toNat,e.toNat,af,_,rfl,ak,dY ny VH,ny,hh.mono s3,c3,hj,hk,λH4 s4 o4=>⟨rfl,q H4 y _ (s3.trans s4) o4⟩⟩
end
end Lf
namespace Lf
open Vbahaf (rowLess least price firstOf taxesOf cut pay single bestPair pairsSorted)
def Di (ns rw:List Int):Prop:= ∃af i e:Int,ns= [af,i,e]/\(0<=af/\af<=4)/\1<=i/\1<=e
def vF (s:ag) (j:ai) (ns rw:List Int):List Int:=
 if ns.getD 2 0<ns.getD 1 0∨(j.segs.length:Int)<ns.getD 2 0 then [-4]
 else
  let x:=pairsSorted ((s.fares.filter λf=>single j (ns.getD 0 0) f (cut j (ns.getD 1 0-1).toNat (ns.getD 2 0).toNat)).map λf=> [pay s (ns.getD 0 0) f (cut j (ns.getD 1 0-1).toNat (ns.getD 2 0).toNat),f.key])
  0::(x.length:Int)::x.flatMap λy=>y
def Dk (ns rw:List Int):Prop:= ∃af i e p q:Int,ns= [af,i,e,p,q]/\(0<=af/\af<=4)/\1<=i/\1<=e/\1<=p/\1<=q
def vH (s:ag) (j:ai) (ns rw:List Int):List Int:=
 if ns.getD 2 0<ns.getD 1 0∨ns.getD 3 0<=ns.getD 2 0∨ns.getD 4 0<ns.getD 3 0∨(j.segs.length:Int)<ns.getD 4 0 then [-4]
 else match bestPair s j (ns.getD 0 0) (cut j (ns.getD 1 0-1).toNat (ns.getD 2 0).toNat) (cut j (ns.getD 3 0-1).toNat (ns.getD 4 0).toNat) with
  |none=> [-7]
  |some r=>0::r
section
variable {P:adT} {w:adQ} {K:aa} {mg:Str->Option Value} {base:adO} {t:CA}
def iV:bh ["house","numbers","row","offers","told","paid","key","fare"] ["house","numbers","row"] (aS (top 111)):=fE
def Kj (D:Dn K mg "tell_singles" (top 111) ["house","numbers","row"]) (b:Bl mg) (c:Cs mg) (G1:Fn P w K mg base "is_component" 1 ["house","first","last"] (uG K)) (G2:Fn P w K mg base "offers_between" 7 ["house","kind","first","last"] (rE K)):
  Fn P w K mg base "tell_singles" 8 ["house","numbers","row"] (gb K Di vF):=by
 refine D.fn λf fd F=>F.ok iV (λvs H Q E h=>?_) (λdD A outer s H vs Q E hr h=>?_)
 ·obtain ⟨_,_,_,_,_,_,_,_,rfl,_⟩:=h;rfl
 ·obtain ⟨h,s,fl,j,ln,lw,ns,rw,rfl,hh,hj,hn,hw,⟨af,i,e,rfl,hk,h1,h2⟩,q⟩:=h;refine ⟨_,(am (cF (ip (eV (pc G1 (hr.mono (by decide)) (ae (pv 0) (ae (bi aZ (pv 1) aE (λ_ _=>rfl)) (ae (bi aZ (pv 1) aE (λ_ _=>rfl)) ax))))))
    (aA (aY (bK (ae (kG c.sM) ax))))
    bI)
   (am (st 3 iV.nd (pc G2 (hr.mono (by decide)) (ae (pv 0) (ae (bi aZ (pv 1) aE (λ_ _=>rfl)) (ae (bi aZ (pv 1) aE (λ_ _=>rfl)) (ae (bi aZ (pv 1) aE (λ_ _=>rfl)) ax))))))
   (am (st 4 iV.nd (bK (ae aE (ae (i4 b.len (aT (pv 3) rfl)) ax))))
   (am (dw PassesOwn.never rfl (cE (d9 vW rfl b.sorted jG (ae (iD rfl iV.nd (cE (aT (pv 3) rfl)) (cX (own:= [("paid",5),("fare",7)]) (by kernel_rfl))
    (λ_ _ _ _ _=>(gT K (n:=2) rfl (cH (gn 5 iV.nd) (cH (gn 7 iV.nd) g8)))) (λ_ _ _ _ _=>fw)
    (λ_ _ _ _ _=>(fM (ae (pv 5) (ae (eF K (pv 7)) ax))))) ax))) (kH rfl (cH (gn 5 iV.nd) (cH (gn 6 iV.nd) g8)))
    (aA (eO (D0 (pv 4) (bK (ae (pv 5) (ae (pv 6) ax)))))))
   (aA (aY (pv 4))))))),?_⟩
  refine ⟨_,rfl,_,rfl,ln,_,1,_,rfl,rfl, .of hn,at_of (j:=1) rfl rfl,_,rfl,ln,_,2,_,rfl,rfl, .of hn,at_of (j:=2) rfl rfl,h,s,fl,j,i,e,rfl,hh,hj,_,rfl,?_⟩;by_cases hc:i<=e/\e<=(j.segs.length:Int)
  ·rw [decide_eq_true hc.1,decide_eq_true hc.2];refine ⟨_,rfl,_,rfl,ln,_,0,_,rfl,rfl, .of hn,at_of (j:=0) rfl rfl,_,rfl,ln,_,1,_,rfl,rfl, .of hn,at_of (j:=1) rfl rfl,_,rfl,ln,_,2,_,rfl,rfl, .of hn,at_of (j:=2) rfl rfl,h,s,fl,j,af,i,e,rfl,hh,hj,hk,h1,hc.1,hc.2,λH1 x B s1 ho=>?_⟩;obtain ⟨ls,UR,nb,ps,hl,hp⟩:=ho.singles;have LK:=(hh.perm.filter λf=>single j af f (cut j (i-1).toNat e.toNat)).map λf=> [pay s af f (cut j (i-1).toNat e.toNat),f.key]
   have xf:(fl.filter λf=>single j af f (cut j (i-1).toNat e.toNat)).length<=60:=aV (aN _ _) (by rw [hh.perm.length_eq];exact hh.ok.fl);have eg:vF s j [af,i,e] rw=0::((pairsSorted ((s.fares.filter λf=>single j af f (cut j (i-1).toNat e.toNat)).map λf=> [pay s af f (cut j (i-1).toNat e.toNat),f.key])).length:Int)::(pairsSorted ((s.fares.filter λf=>single j af f (cut j (i-1).toNat e.toNat)).map λf=> [pay s af f (cut j (i-1).toNat e.toNat),f.key])).flatMap λy=>y:=by
    unfold vF;exact if_neg (by show¬(e<i∨(j.segs.length:Int)<e);omega)
   rw [eg] at q;generalize ((s.fares.filter λf=>single j af f (cut j (i-1).toNat e.toNat)).map λf=> [pay s af f (cut j (i-1).toNat e.toNat),f.key])=target at LK q;generalize (fl.filter λf=>single j af f (cut j (i-1).toNat e.toNat))=fs at hp LK xf;refine ⟨_,rfl,aH UR ⟨ls,_,rfl, .inl (.of hl),(by show 2<=sizeLine;decide),λlt PN=>?_⟩⟩;have nt:H lt=none:=s1.free PN;have s2:aB H1 (upd H1 lt (.lst [.int 0, .int ((ps.map V.ref).length:Nat)])):=aB.new PN;have ZO:(upd H1 lt (.lst [.int 0, .int ((ps.map V.ref).length:Nat)])) lt=some (.lst ([0,(fs.length:Int)].map V.int)):=by rw [ak,ab,hp.1];rfl
   generalize (upd H1 lt (.lst [.int 0, .int ((ps.map V.ref).length:Nat)]))=H2 at s2 ZO;refine ⟨_,rfl,aH (UR.mono s2) ⟨ls,rfl,⟨_, .of (s2 _ _ hl)⟩,λD hD=>fO (K:=K) (a:=ls) (xs:=ps.map V.ref) (λn H'=>aB H2 H'/\qa H' D ((fs.take n).map λf=> [pay s af f (cut j (i-1).toNat e.toNat),f.key])) ⟨aB.new hD,[],ak,bQ.nil⟩ (λn H' _ ⟨sm,_⟩=> .of (sm _ _ (s2 _ _ hl))) ?_ ?_⟩⟩
   ·rintro n x H3 hx ⟨sm,qs,hq,m6⟩;obtain ⟨p,Qm,rfl⟩:=b0 hx;obtain ⟨f,hf,fa,tp,rT⟩:=hp.get' Qm;refine ⟨p,_,rfl, .of (sm _ _ (s2 _ _ tp)),rfl,_,_,rfl,_,_,rfl,rfl,rfl,?_⟩;refine ⟨_,rfl,_,rfl,aH (rT.mono (s2.trans sm)).key ⟨(by show 2<=sizeLine;decide),λp1 DM=>?_⟩⟩;refine ⟨qs.map V.ref,bp hq (aG hq DM),?_,aB.put (sm.trans (aB.new DM)) hD,?_⟩
    ·rw [ab,m6.1,ab,bc];exact cy (aV (du _ _) xf) (by decide)
    ·rw [dQ hf,aO];exact qa.put rfl hq m6 DM
   ·rintro H3 ⟨s3,qs,hq,m6⟩;rw [ab,hp.1,bq] at m6;refine ⟨D,qs,rfl, .of hq,λp Fi=>?_,λSU lq mD sG VU=>?_⟩
    ·obtain ⟨k,GX⟩:=dL.mp Fi;obtain ⟨r,x8,e'⟩:=m6.get' GX;obtain ⟨f,_,rfl⟩:=aj.mp (aI x8);exact ⟨_,by simp,e'⟩
    ·obtain ⟨R',QA,Na⟩:=bQ.perm mD.symm m6;have NI:SU.map (rowAt H3)=R':=by
      refine Ls λi=>?_;rw [br];cases e:SU[i]? with
      |none=>
       have:R'[i]?=none:=by rw [kS] at e⊢;rw [<-Na.1];exact e
       rw [this];rfl
      |some p=>
       obtain ⟨x,hx,hh⟩:=Na.get' e;rw [hx,dg,uV hh]
     rw [NI] at sG;have eR:=Ar (QA.symm.trans LK) sG;rw [<-eR] at q;have hlen:R'.length=fs.length:=by rw [<-QA.length_eq,ab]
     rw [hlen] at q;have two: ∀r∈R', ∃a k,r= [a,k]:=λr x8=>by
      obtain ⟨f,_,rfl⟩:=aj.mp (QA.mem_iff.mpr x8);exact ⟨_,_,rfl⟩
     have X2:=s3 _ _ ZO;have nql:lq≠lt:=(aG X2 VU).symm;have s4:aB H3 (upd H3 lq (.lst (SU.map V.ref))):=aB.new VU;refine ⟨lq,rfl,⟨_, .of ak⟩,fc (K:=K) (a:=lq) (xs:=SU.map V.ref) (λn σ H'=>(∃v5 v6 v7,σ= [some (.ref h.a),some (.ref ln),some (.ref lw),some (.ref x),some (.ref lt),v5,v6,v7])/\dH lt (upd H3 lq (.lst (SU.map V.ref))) H'/\H' lt=some (.lst ((0::(fs.length:Int)::(R'.take n).flatMap λy=>y).map V.int))) ⟨⟨_,_,_,rfl⟩,λ_ _ _ z=>z,s4 _ _ X2⟩ (λn σ H' _ ⟨_,z,_⟩=> .of (z _ _ nql ak)) ?_ ?_⟩
     ·rintro n y σ H4 hy ⟨⟨v5,v6,v7,rfl⟩,B4,RB⟩;obtain ⟨p,Qm,rfl⟩:=b0 hy;obtain ⟨r,x8,tp⟩:=Na.get' Qm;obtain ⟨a,k,rfl⟩:=two r (aI x8);have RZ:=B4 _ _ (cg tp X2 λz=>nomatch z) (s4 _ _ tp);refine ⟨p,_,rfl, .of RZ,rfl,_,_,rfl,_,_,rfl,rfl,?_⟩;refine ⟨_,rfl, .inl ⟨rfl,_, .of RB⟩,_,rfl,_,rfl,(by show 2<=sizeLine;decide),λl2 n2=>?_⟩;have Ta:lt≠l2:=aG RB n2;refine ⟨lt,l2,_,_,rfl,rfl,bp RB Ta,ak,?_,⟨_,_,_,rfl⟩,(B4.trans (aB.but (aB.new n2))).trans dH.upd,?_⟩
      ·have Ui:(R'.take n).length<=60:=by rw [bc];omega
       have g1:=gW (f:=λy:List Int=>y) (k:=2) (l:=R'.take n) λr x8=>by
        obtain ⟨a,k,rfl⟩:=two r (FT x8);exact ay _
       rw [ab];simp only [aR,cU];have:sizeLine=16777216:=adY;omega
      ·rw [ak,dQ x8,cc];simp
     ·rintro σ H4 ⟨⟨v5,v6,v7,rfl⟩,B4,RB⟩;rw [ab,Na.1,bq] at RB;exact ⟨_,rfl,q H4 lt (dH.same ((s1.trans s2).trans (s3.trans s4)) nt B4) nt RB⟩
  ·have e0:(decide (i<=e)&&decide (e<=(j.segs.length:Int)))=false:=by
    rw [jc];by_cases z:i<=e
    ·exact .inr (decide_eq_false λy=>hc ⟨z,y⟩)
    ·exact .inl (decide_eq_false z)
   rw [e0];refine ⟨(by show 1<=sizeLine;decide),λl hl=>q _ l (aB.new hl) hl ?_⟩;have eg:vF s j [af,i,e] rw= [-4]:=by
    unfold vF;exact if_pos (by show e<i∨(j.segs.length:Int)<e;omega)
   rw [ak,eg];rfl
def qx:bh ["house","numbers","row","out_offers","home_offers","found"] ["house","numbers","row"] (aS (top 113)):=fE
def Kl (D:Dn K mg "tell_pair" (top 113) ["house","numbers","row"]) (b:Bl mg) (c:Cs mg) (G1:Fn P w K mg base "are_components_in_order" 2 ["house","first","last","second_first","second_last"] (EE K)) (G2:Fn P w K mg base "offers_between" 7 ["house","kind","first","last"] (rE K)) (G3:Fn P w K mg base "least_return" 3 ["house","out_offers","home_offers"] (pH K)):
  Fn P w K mg base "tell_pair" 8 ["house","numbers","row"] (gb K Dk vH):=by
 refine D.fn λf fd F=>F.ok qx (λvs H Q E h=>?_) (λdD A outer s H vs Q E hr h=>?_)
 ·obtain ⟨_,_,_,_,_,_,_,_,rfl,_⟩:=h;rfl
 ·obtain ⟨h,s,fl,j,ln,lw,ns,rw,rfl,hh,hj,hn,hw,⟨af,i,e,p,q',rfl,hk,h1,h2,h3,h4⟩,q⟩:=h;refine ⟨_,(am (cF (ip (eV (pc G1 (hr.mono (by decide)) (ae (pv 0) (ae (bi aZ (pv 1) aE (λ_ _=>rfl)) (ae (bi aZ (pv 1) aE (λ_ _=>rfl)) (ae (bi aZ (pv 1) aE (λ_ _=>rfl)) (ae (bi aZ (pv 1) aE (λ_ _=>rfl)) ax))))))))
    (aA (aY (bK (ae (kG c.sM) ax))))
    bI)
   (am (st 3 qx.nd (pc G2 (hr.mono (by decide)) (ae (pv 0) (ae (bi aZ (pv 1) aE (λ_ _=>rfl)) (ae (bi aZ (pv 1) aE (λ_ _=>rfl)) (ae (bi aZ (pv 1) aE (λ_ _=>rfl)) ax))))))
   (am (st 4 qx.nd (pc G2 (hr.mono (by decide)) (ae (pv 0) (ae (bi aZ (pv 1) aE (λ_ _=>rfl)) (ae (bi aZ (pv 1) aE (λ_ _=>rfl)) (ae (bi aZ (pv 1) aE (λ_ _=>rfl)) ax))))))
   (am (st 5 qx.nd (pc G3 (hr.mono (by decide)) (ae (pv 0) (ae (pv 3) (ae (pv 4) ax)))))
   (am (cF (gc (jM (pv 5)))
    (aA (aY (bK (ae (kG c.qR) ax))))
    bI)
   (aA (aY (bX pP (bK (ae aE ax)) (xO zD rfl b.list uf (ae (pv 5) ax)))))))))),?_⟩
  refine ⟨_,rfl,_,rfl,ln,_,1,_,rfl,rfl, .of hn,at_of (j:=1) rfl rfl,_,rfl,ln,_,2,_,rfl,rfl, .of hn,at_of (j:=2) rfl rfl,_,rfl,ln,_,3,_,rfl,rfl, .of hn,at_of (j:=3) rfl rfl,_,rfl,ln,_,4,_,rfl,rfl, .of hn,at_of (j:=4) rfl rfl,h,s,fl,j,i,e,p,q',rfl,hh,hj,_,rfl,?_⟩;by_cases hc:i<=e/\e<p/\p<=q'/\q'<=(j.segs.length:Int)
  ·obtain ⟨c1,c2,c3,c4⟩:=hc;rw [decide_eq_true c1,decide_eq_true c2,decide_eq_true c3,decide_eq_true c4,decide_eq_true (by omega:e<=(j.segs.length:Int))];have eg:vH s j [af,i,e,p,q'] rw=match bestPair s j af (cut j (i-1).toNat e.toNat) (cut j (p-1).toNat q'.toNat) with
     |none=> [-7]
     |some r=>0::r:=by
    unfold vH;exact if_neg (by show¬(e<i∨p<=e∨q'<p∨(j.segs.length:Int)<q');omega)
   rw [eg] at q;refine ⟨_,rfl,_,rfl,ln,_,0,_,rfl,rfl, .of hn,at_of (j:=0) rfl rfl,_,rfl,ln,_,1,_,rfl,rfl, .of hn,at_of (j:=1) rfl rfl,_,rfl,ln,_,2,_,rfl,rfl, .of hn,at_of (j:=2) rfl rfl,h,s,fl,j,af,i,e,rfl,hh,hj,hk,h1,c1,by omega,λH1 x B s1 ho=>?_⟩;have sH:=s1 _ _ hn;refine ⟨_,rfl,_,rfl,ln,_,0,_,rfl,rfl, .of sH,at_of (j:=0) rfl rfl,_,rfl,ln,_,3,_,rfl,rfl, .of sH,at_of (j:=3) rfl rfl,_,rfl,ln,_,4,_,rfl,rfl, .of sH,at_of (j:=4) rfl rfl,h,s,fl,j,af,p,q',rfl,hh.mono s1,hj,hk,h3,c3,c4,λH2 y B' s2 Cr=>?_⟩;refine ⟨_,rfl,_,rfl,_,rfl,h,s,fl,j,af,x,y,(i-1).toNat,e.toNat,(p-1).toNat,q'.toNat,B,B',rfl,hh.mono (s1.trans s2),hj,ho.mono s2,Cr,λH3 s3 hb=>?_,λH3 z a k m s3 hb tz=>?_⟩
   ·have wz:=(s1.trans s2).trans s3;rw [hb] at q;exact ⟨_,rfl,_,rfl,(by show 1<=sizeLine;decide),λl hl=>q _ l (wz.trans (aB.new hl)) (wz.free hl) ak⟩
   ·have wz:=(s1.trans s2).trans s3;rw [hb] at q;refine ⟨_,rfl,_,rfl,?_⟩;refine ⟨(by show 1<=sizeLine;decide),λl0 n0=>⟨_,rfl,z,_,rfl, .inr (.of (aB.new n0 _ _ tz)),λl1 n1=>?_⟩⟩;have s4:aB H3 (upd H3 l0 (.lst [.int 0])):=aB.new n0;have s5:=aB.new (o:= .lst [.int a, .int k, .int m]) n1;exact ⟨l0,l1,_,_,rfl,rfl,s5 _ _ ak,ak,(by show 1+3<=sizeLine;decide),λlz nz=>q _ lz (((wz.trans s4).trans s5).trans (aB.new nz)) (((wz.trans s4).trans s5).free nz) ak⟩
  ·have e0:((decide (i<=e)&&decide (e<=(j.segs.length:Int)))&&((decide (p<=q')&&decide (q'<=(j.segs.length:Int)))&&decide (e<p)))=false:=by
    rw [<-Bool.not_eq_true];intro z;simp only [aU,decide_eq_true_eq] at z;exact hc ⟨z.1.1,z.2.2,z.2.1.1,z.2.1.2⟩
   rw [e0];refine ⟨(by show 1<=sizeLine;decide),λl hl=>q _ l (aB.new hl) hl ?_⟩;have eg:vH s j [af,i,e,p,q'] rw= [-4]:=by
    unfold vH;exact if_pos (by show e<i∨p<=e∨q'<p∨(j.segs.length:Int)<q';omega)
   rw [ak,eg];rfl
end
end Lf
namespace Lf
open Vbahaf (rowLess least price firstOf taxesOf)
def y8 (ns rw:List Int):Prop:=rw.length=5/\∀x∈rw,0<=x/\x<=9
def On (s:ag) (j:ai) (l:List Int) (k:Nat):Option (Int×Option (List Int)):=if l.getD k 0=0 then none else some (l.getD k 0,price s j (k:Int))
def pX (s:ag) (j:ai) (ns l:List Int):List Int:=
 let xs:=(bb 5).filterMap (On s j l)
 if (xs.all λx=>x.2.isSome)=false then [-7]
 else [0,(xs.map λx=>x.1*((x.2.getD []).headD 0)).foldl (λa b=>a+b) 0,(l.foldl (λa b=>a+b) 0)*taxesOf s j]
def l9 (s:ag) (j:ai) (l:List Int) (m:Nat):Int:=(((bb m).filterMap (On s j l)).map λx=>x.1*((x.2.getD []).headD 0)).sum
def Xq (s:ag) (j:ai) (l:List Int) (m:Nat):Prop:= ∀k,k<m->¬l.getD k 0=0->(price s j (k:Int)).isSome=true
def A5 {s:ag} {j:ai} {l:List Int} {m:Nat} (h:l.getD m 0=0):l9 s j l (m+1)=l9 s j l m:=by
 unfold l9;rw [eh,i8];have: [m].filterMap (On s j l)= []:=by
  rw [db];unfold On;rw [if_pos h];rfl
 rw [this,di]
def A4 {s:ag} {j:ai} {l:List Int} {m:Nat} {r:List Int} (h: ¬l.getD m 0=0) (hp:price s j (m:Int)=some r):l9 s j l (m+1)=l9 s j l m+l.getD m 0*r.headD 0:=by
 unfold l9;rw [eh,i8];have: [m].filterMap (On s j l)= [(l.getD m 0,some r)]:=by
  rw [db];unfold On;rw [if_neg h,hp];rfl
 rw [this,aO,N6];simp
def Ss {l:List Int} (h5:l.length=5) (h9: ∀x∈l,0<=x/\x<=9): -(2^64)<l.sum/\l.sum<2^64:=by
 match l,h5,h9 with
 | [a,b,c,d,e],_,h9=>
  have h1:=h9 a (by simp);have h2:=h9 b (by simp);have h3:=h9 c (by simp);have h4:=h9 d (by simp);have h5:=h9 e (by simp);simp only [fB,List.sum_nil];omega
section
variable {P:adT} {w:adQ} {K:aa} {mg:Str->Option Value} {base:adO} {t:CA}
def jD:bh ["house","numbers","row","paid","kind","many","total"] ["house","numbers","row"] (aS (top 108)):=fE
def Hb (D:Dn K mg "tell_party" (top 108) ["house","numbers","row"]) (b:Bl mg) (c:Cs mg) (G1:Fn P w K mg base "least_total" 10 ["house","kind"] (Ew K)) (G2:Fn P w K mg base "journey_taxes" 1 ["house"] (yJ K)):
  Fn P w K mg base "tell_party" 11 ["house","numbers","row"] (gb K y8 pX):=by
 refine D.fn λf fd F=>F.ok jD (λvs H Q E h=>?_) (λdD A outer s H vs Q E hr h=>?_)
 ·obtain ⟨_,_,_,_,_,_,_,_,rfl,_⟩:=h;rfl
 ·obtain ⟨h,s,fl,j,ln,lw,ns,l,rfl,hh,hj,hn,hw,⟨h5,h9⟩,q⟩:=h;refine ⟨_,(am (st 3 jD.nd aE)
   (am (dw PassesOwn.never rfl (EX rfl b.enumerate (ae (pv 2) ax)) (kH rfl (cH (gn 4 jD.nd) (cH (gn 5 jD.nd) g8)))
    (aA (cF (cD A7 (pv 5) aE (bR _))
    (am (st 6 jD.nd (pc G1 (hr.mono (by decide)) (ae (pv 0) (ae (pv 4) ax))))
   (am (cF (gc (jM (pv 6)))
    (aA (aY (bK (ae (kG c.qR) ax))))
    bI)
   (aA (st 3 jD.nd (bX fN (pv 3) (bX vb (pv 5) (pv 6)))))))
    bI)))
   (aA (aY (bK (ae aE (ae (pv 3) (ae (bX vb (d9 (zA rfl) rfl b.sum ig (ae (pv 2) ax)) (pc G2 (hr.mono (by decide)) (ae (pv 0) ax))) ax)))))))),?_⟩
  refine ⟨_,rfl,lw,_,rfl, .of hw,ml (n:=5) (λm σ H'=>(∃v4 v5 v6,σ= [some (.ref h.a),some (.ref ln),some (.ref lw),some (.int (l9 s j l m)),v4,v5,v6])/\aB H H'/\Xq s j l m)
   ⟨⟨_,_,_,rfl⟩,aB.refl H,λk hk=>absurd hk (eC _)⟩ (λm σ H' hm ⟨_,sm,_⟩=>?_) (λσ H' ⟨_,sm,_⟩=>⟨_, .of (sm _ _ hw),by rw [ab,h5];exact ay _⟩) ?_ ?_⟩
  ·obtain ⟨x,hx⟩: ∃x,l[m]?=some x:=⟨_,ao (by omega)⟩
   exact ⟨_,_, .of (sm _ _ hw),ir hx⟩
  ·rintro m σ H1 y O0 hm ⟨⟨v4,v5,v6,rfl⟩,s1,ok⟩ ⟨T,z,rfl,hT,rfl,hz⟩;obtain ⟨x,hx,rfl⟩:=ints_get (hz _ (.of (s1 _ _ hw)));have Tz:l.getD m 0=x:=by rw [bj,hx];rfl
   obtain ⟨h0,_⟩:=h9 x (aI hx);have s2:aB H1 (upd H1 T (.tup [.int (m:Nat), .int x])):=aB.new hT;refine ⟨T,_,rfl, .of ak,rfl,_,_,rfl,_,_,rfl,rfl,?_⟩;refine ⟨_,rfl,_,_,rfl,rfl,_,rfl,?_⟩;by_cases Nb:0<x
   ·refine dT Nb ?_;refine ⟨_,rfl,_,rfl,h,s,fl,j,(m:Int),rfl,hh.mono (s1.trans s2),hj,by omega,λH2 s3=>?_⟩;have wz:=(s1.trans s2).trans s3;unfold Md;cases e:price s j (m:Int) with
    |none=>
     refine ⟨_,rfl,_,rfl,(by show 1<=sizeLine;decide),λlz nz=>q _ lz (wz.trans (aB.new nz)) (wz.free nz) ?_⟩;have eg:pX s j ns l= [-7]:=by
      unfold pX;refine if_pos ?_;rw [iJ];refine ⟨(x,none),bU.mpr ⟨m,bE.mpr hm,?_⟩,by simp⟩;unfold On;rw [if_neg (by omega),Tz,e]
     rw [ak,eg];rfl
    |some r=>
     refine ⟨_,rfl,_,rfl,?_⟩;refine ⟨_,rfl,_,rfl,_,rfl,_,_,rfl,rfl, .inl ⟨by omega,by omega⟩,_,_,rfl,rfl,⟨some (.int (m:Int)),some (.int x),some (.int (r.headD 0)),?_⟩,wz,?_⟩
     ·rw [A4 (by omega) e,Tz];rfl
     ·intro k hk gp;by_cases ek:k=m
      ·subst ek;rw [e];rfl
      ·exact ok k (by omega) gp
   ·refine dF Nb ?_;have XT:l.getD m 0=0:=by omega
    refine ⟨⟨_,_,_,by rw [A5 XT];rfl⟩,s1.trans s2,λk hk gp=>?_⟩;by_cases ek:k=m
    ·subst ek;exact absurd XT gp
    ·exact ok k (by omega) gp
  ·rintro σ H1 ⟨⟨v4,v5,v6,rfl⟩,s1,ok⟩;refine ⟨_,rfl,_,rfl,lw,l,rfl, .of (s1 _ _ hw),_,rfl,h,s,fl,j,rfl,hh.mono s1,hj,λH2 s2=>⟨_,_,rfl,rfl, .inl (Ss h5 h9),(by show 3<=sizeLine;decide),λlz nz=>q _ lz ((s1.trans s2).trans (aB.new nz)) ((s1.trans s2).free nz) ?_⟩⟩;have eg:pX s j ns l= [0,l9 s j l 5,l.sum*taxesOf s j]:=by
    unfold pX;show (if _=false then _ else _)=_;rw [if_neg]
    ·unfold l9;rw [lx,lx,oy,oy]
    ·rw [lP,bJ];intro x hx;obtain ⟨k,hk,e⟩:=bU.mp hx;unfold On at e;by_cases z:l.getD k 0=0
     ·rw [if_pos z] at e;cases e
     ·rw [if_neg z] at e;cases e;exact ok k (bE.mp hk) z
   rw [ak,eg];rfl
end
end Lf
namespace Lf
open Vbahaf (threes risesTo spansOf partnersRight fareOf)
abbrev gP:=Int×Int×Int
def Tf (x:gP):List V:= [.int x.1, .int x.2.1, .int x.2.2]
def fU (H:Hp) (lt:Addr) (l:List gP):Prop:= ∃ps:List Addr,H lt=some (.lst (ps.map V.ref))/\bQ (λp x=>H p=some (.lst (Tf x))) ps l
def fU.mono {H H':Hp} {lt:Addr} {l:List gP} (h:fU H lt l) (e:aB H H'):fU H' lt l:=by
 obtain ⟨ps,h1,h2⟩:=h;exact ⟨ps,e _ _ h1,h2.mono λ_ _ z=>e _ _ z⟩
def ux: ∀{rw:List Int} {k:Nat} {x:gP},(threes rw)[k]?=some x->3*k+3<=rw.length/\(rw.drop (3*k)).take 3= [x.1,x.2.1,x.2.2]
 | [],k,x,h=>by simp [threes] at h
 | [_],k,x,h=>by simp [threes] at h
 | [_,_],k,x,h=>by simp [threes] at h
 |a::b::c::r,0,x,h=>by
  have h:(a,b,c)=x:=by simpa [threes] using h
  subst h;exact ⟨by simp,rfl⟩
 |a::b::c::r,k+1,x,h=>by
  have h:(threes r)[k]?=some x:=by simpa [threes] using h
  obtain ⟨h1,h2⟩:=ux h;refine ⟨by simp only [aR];omega,?_⟩;rw [show 3*(k+1)=3*k+3 by omega];exact h2
def lW: ∀(rw:List Int),(threes rw).length=rw.length/3
 | []=>rfl
 | [_]=>by simp [threes]
 | [_,_]=>by simp [threes]
 |a::b::c::r=>by
  show (threes r).length+1=(r.length+3)/3;rw [lW r];omega
def rg3 {n:Nat} (h:n<=60) (h3:n%3=0):Ze 0 (n:Int) 3 (n/3):=by
 have key: ∀n:Nat,n<61->n%3=0->Builtin.Range.small 0 (n:Int) 3=true/\Builtin.Range.rangeSize 0 (n:Int) 3=((n/3:Nat):Int):=by decide+kernel
 obtain ⟨a,b⟩:=key n (by omega) h3;exact ⟨by decide,by decide,a,b⟩
def EB:Sp:=λvs H Q _=> ∃(lw:Addr) (rw:List Int),vs= [.ref lw]/\H lw=some (.lst (rw.map V.int))/\rw.length<=60/\rw.length%3=0/\∀(H':Hp) (lt:Addr),aB H H'->H lt=none->fU H' lt (threes rw)->Q (.ref lt) H'
def Og (K:aa):Sp:=λvs H Q _=> ∃(h:HA) (s:ag) (fl:List aq) (j:ai) (lt:Addr) (l:List gP),vs= [.ref h.a, .ref lt]/\ba K H h s fl/\s.journey=some j/\fU H lt l/\Q (.bl (risesTo j.segs.length 0 l)) H
def Ey (K:aa):Sp:=λvs H Q _=> ∃(h:HA) (s:ag) (fl:List aq) (lt:Addr) (l:List gP),vs= [.ref h.a, .ref lt]/\ba K H h s fl/\fU H lt l/\l.length<=20/\∀H',aB H H'->Q (.bl (l.all λx=>(fareOf s x.2.1).isSome)) H'
def nA (l:List gP) (i:Nat):Bool:=match l[i]? with
 |none=>true
 |some x=>decide (x.2.2=0)||(decide (1<=x.2.2)&&(decide (x.2.2≠(i:Int)+1)&&(match l[(x.2.2-1).toNat]? with
  |some y=>decide (y.2.2=(i:Int)+1)
  |none=>false)))
def u9 (l:List gP):partnersRight l=(bb l.length).all (nA l):=rfl
def Ao:Sp:=λvs H Q _=> ∃(lt:Addr) (l:List gP) (i:Nat) (z:Int),vs= [.ref lt, .int z]/\z=(i:Int)+1/\fU H lt l/\i<l.length/\(∀x∈l,0<=x.2.2)/\Q (.bl (nA l i)) H
def xB:Sp:=λvs H Q _=> ∃(lt:Addr) (l:List gP),vs= [.ref lt]/\fU H lt l/\(∀x∈l,0<=x.2.2)/\l.length<=20/\∀H',aB H H'->Q (.bl (partnersRight l)) H'
section
variable {P:adT} {w:adQ} {K:aa} {mg:Str->Option Value} {base:adO} {t:CA}
def uP:bh ["row","at"] ["row"] (aS (top 72)):=fE
def Ku (D:Dn K mg "split_threes" (top 72) ["row"]) (b:Bl mg) (c:Cs mg):Fn P w K mg base "split_threes" 1 ["row"] EB:=by
 refine D.fn λf fd F=>F.ok uP (λvs H Q E h=>?_) (λdD A outer s H vs Q E hr h=>?_)
 ·obtain ⟨_,_,rfl,_⟩:=h;rfl
 ·obtain ⟨lw,rw,rfl,hw,xf,h3,q⟩:=h;refine ⟨_,(aA (aY (iD rfl uP.nd (xN rfl b.range (ae aE (ae (i4 b.len (pv 0)) (ae (kG c.pi) ax)))) (cX (own:= [("at",1)]) (by kernel_rfl))
    (λ_ _ _ _ _=>(gn 1 uP.nd)) (λ_ _ _ _ _=>fw)
    (λ_ _ _ _ _=>(UX K (pv 0) (iR (pv 1)) (iR (bX fN (pv 1) (kG c.pi)))))))),?_⟩
  refine ⟨_,rfl,lw,_,rfl, .inl (.of hw),0,_,3,rw.length/3,rfl,by rw [ab];exact rg3 xf h3,λD hD=>DH (n:=rw.length/3) (λn H'=>aB H H'/\∃ps:List Addr,H' D=some (.lst (ps.map V.ref))/\bQ (λp x=>p≠D/\H' p=some (.lst (Tf x))) ps ((threes rw).take n)) ⟨aB.new hD,[],ak,bQ.nil⟩ (λi H' hi _=>hi) (λH' _=>ay _) ?_ ?_⟩
  ·rintro n H1 y O0 hn ⟨s1,ps,hp,gL⟩ ⟨rfl,rfl⟩;obtain ⟨x,hx⟩: ∃x,(threes rw)[n]?=some x:=⟨_,ao (by rw [lW];exact hn)⟩
   obtain ⟨g1,g2⟩:=ux hx;refine ⟨rfl,_,rfl,_,rfl,_,rfl,_,rfl,_,_,rfl,rfl,_,rfl,lw,_,rfl, .of (s1 _ _ hw),λp np=>?_⟩;rw [oR (i:=3*n) (e:=3*n+3) (by omega) (by omega) (by omega) (by omega),show 3*n+3-3*n=3 by omega,g2];have Rx:D≠p:=aG hp np;refine ⟨ps.map V.ref,bp hp Rx,?_,aB.put (s1.trans (aB.new np)) hD,ps++ [p],by rw [ak,dX],?_⟩
   ·rw [ab,gL.1,bc];have:sizeLine=16777216:=adY;omega
   ·rw [dQ hx];exact (gL.mono λa b z=>⟨z.1,vw z.2 np z.1⟩).snoc ⟨Rx.symm,bp ak Rx.symm⟩
  ·rintro H1 ⟨s1,ps,hp,gL⟩;rw [cp (by rw [lW];exact ay _)] at gL;exact q H1 D s1 hD ⟨ps,hp,gL.mono λ_ _ z=>z.2⟩
def yS:bh ["house","threes","last","three"] ["house","threes"] (aS (top 73)):=fE
def QM (D:Dn K mg "is_cut_right" (top 73) ["house","threes"]) (b:Bl mg):Fn P w K mg base "is_cut_right" 1 ["house","threes"] (Og K):=by
 refine D.fn λf fd F=>F.ok yS (λvs H Q E h=>?_) (λdD A outer s H vs Q E hr h=>?_)
 ·obtain ⟨_,_,_,_,_,_,rfl,_⟩:=h;rfl
 ·obtain ⟨h,s,fl,j,lt,l,rfl,hh,hj,⟨ps,hl,gL⟩,q⟩:=h;obtain ⟨ja,fj,GQ⟩:=hh.dS hj;obtain ⟨Bq,lsg,as,RG,Fp,Ym,hs,Yf⟩:=GQ;refine ⟨_,(am (st 2 yS.nd aE)
   (am (dw PassesOwn.never rfl (cE (pv 1)) (gn 3 yS.nd)
    (am (cF (cD vc (bi aZ (pv 3) aE (λ_ _=>rfl)) (pv 2) (bR _))
    (aA (aY iE))
    bI)
   (aA (st 2 yS.nd (bi aZ (pv 3) aE (λ_ _=>rfl))))))
   (aA (aY (dM gg (pv 2) (i4 b.len (aT (aT (pv 0) rfl) rfl)) (bR _)))))),?_⟩
  refine ⟨_,rfl,lt,rfl,⟨_, .of hl⟩,fc (K:=K) (a:=lt) (xs:=ps.map V.ref) (λm σ H'=>H'=H/\∃(la:Int) (v3:Option V),σ= [some (.ref h.a),some (.ref lt),some (.int la),v3]/\risesTo j.segs.length 0 l=risesTo j.segs.length la (l.drop m)) ⟨rfl,0,_,rfl,rfl⟩ (λm σ H' _ ⟨e,_⟩=>by rw [e];exact .of hl) ?_ ?_⟩
  ·rintro m y σ H1 hy ⟨rfl,la,v3,rfl,Cq⟩;obtain ⟨p,hp,rfl⟩:=b0 hy;obtain ⟨x,hx,pW⟩:=gL.get' hp;have hd:l.drop m=x::l.drop (m+1):=by
    obtain ⟨hm,e⟩:=aK.mp hx;rw [g5 hm,e]
   have TU:risesTo j.segs.length 0 l=(decide (la<x.1)&&risesTo j.segs.length x.1 (l.drop (m+1))):=by rw [Cq,hd];rfl
   refine ⟨_,rfl,p,_,0,_,rfl,rfl, .of pW,at_of (j:=0) rfl rfl,_,rfl,_,_,rfl,rfl,_,rfl,?_⟩;by_cases hc:x.1<=la
   ·refine dT hc ?_;exact ck q (by rw [TU,decide_eq_false (by omega)];rfl)
   ·refine dF hc ?_;refine ⟨_,rfl,p,_,0,_,rfl,rfl, .of pW,at_of (j:=0) rfl rfl,rfl,x.1,_,rfl,?_⟩;rw [TU,decide_eq_true (by omega)];rfl
  ·rintro σ H1 ⟨rfl,la,v3,rfl,Cq⟩;rw [ab,gL.1,LU] at Cq;refine ⟨_,rfl,_,rfl,aH fj (aH Fp ⟨lsg,_,rfl, .inl (.of Ym),rfl,?_⟩)⟩;refine ck q ?_;rw [Cq,dV,ab,hs.1];rfl
def uN:bh ["house","threes","three"] ["house","threes"] (aS (top 74)):=fE
def Ko (D:Dn K mg "are_fares_there" (top 74) ["house","threes"]) (b:Bl mg):Fn P w K mg base "are_fares_there" 1 ["house","threes"] (Ey K):=by
 refine D.fn λf fd F=>F.ok uN (λvs H Q E h=>?_) (λdD A outer s H vs Q E hr h=>?_)
 ·obtain ⟨_,_,_,_,_,rfl,_⟩:=h;rfl
 ·obtain ⟨h,s,fl,lt,l,rfl,hh,⟨ps,hl,gL⟩,OI,q⟩:=h;have hu:=jP hr;obtain ⟨kvs,hf,fd⟩:=hh.vN;have RH: ∀k,(cx kvs (az k)).isSome=(fareOf s k).isSome:=λk=>by
   cases e:fareOf s k with
   |none=>rw [fd.none_ k e];rfl
   |some f=>
    obtain ⟨fa,e1,_⟩:=fd.xD k f e;rw [e1];rfl
  refine ⟨_,(aA (aY (d9 (Lb rfl) rfl b.all wu (ae (iD rfl uN.nd (cE (pv 1)) (cX (own:= [("three",2)]) (by kernel_rfl))
    (λ_ _ _ _ _=>(gn 2 uN.nd)) (λ_ _ _ _ _=>fw)
    (λ_ _ _ _ _=>(Jw (PD hu (K6 K (pv 2) aE) (eF K (pv 0)))))) ax)))),?_⟩
  refine ⟨_,rfl,lt,rfl,⟨_, .of hl⟩,λD hD=>fO (K:=K) (a:=lt) (xs:=ps.map V.ref) (λn H'=>aB H H'/\H' D=some (.lst (((l.take n).map λx=>(fareOf s x.2.1).isSome).map V.bl))) ⟨aB.new hD,ak⟩ (λn H' _ ⟨sm,_⟩=> .of (sm _ _ hl)) ?_ ?_⟩
  ·rintro n y H1 hy ⟨s1,h1⟩;obtain ⟨p,hp,rfl⟩:=b0 hy;obtain ⟨x,hx,pW⟩:=gL.get' hp;refine ⟨rfl,_,rfl,p,_,1,_,rfl,rfl, .of (s1 _ _ pW),at_of (j:=1) rfl rfl,_,rfl,aH (hh.hZ.mono s1) ⟨h.f,_,rfl,j7.k (k:=az x.2.1) (s1 _ _ hf),?_⟩⟩;rw [RH];refine ⟨_,h1,?_,aB.put s1 hD,?_⟩
   ·rw [ab,ab,bc];have:sizeLine=16777216:=adY;omega
   ·rw [ak,dQ hx,aO,aO];rfl
  ·rintro H1 ⟨s1,h1⟩;rw [ab,gL.1,bq] at h1;refine ⟨D,_,rfl, .of h1,?_⟩;rw [show ((l.map λx=>(fareOf s x.2.1).isSome).all id)=l.all λx=>(fareOf s x.2.1).isSome by rw [ng];rfl];exact q H1 s1
def xI:bh ["threes","place","partner"] ["threes","place"] (aS (top 75)):=fE
def Hi (D:Dn K mg "is_partner_right" (top 75) ["threes","place"]) (b:Bl mg):Fn P w K mg base "is_partner_right" 1 ["threes","place"] Ao:=by
 refine D.fn λf fd F=>F.ok xI (λvs H Q E h=>?_) (λdD A outer s H vs Q E hr h=>?_)
 ·obtain ⟨_,_,_,_,rfl,_⟩:=h;rfl
 ·obtain ⟨lt,l,i,z,rfl,hz,⟨ps,hl,gL⟩,hi,h0,q⟩:=h;obtain ⟨x,hx⟩: ∃x,l[i]?=some x:=⟨_,ao hi⟩
  obtain ⟨p,hp,pW⟩:=gL.get hx;have XT:=h0 x (aI hx);have epr:nA l i=(decide (x.2.2=0)||(decide (1<=x.2.2)&&(decide (x.2.2≠(i:Int)+1)&&(match l[(x.2.2-1).toNat]? with
   |some y=>decide (y.2.2=(i:Int)+1)
   |none=>false)))):=by unfold nA;rw [hx]
  refine ⟨_,(am (st 2 xI.nd (bi aZ (bi aZ (pv 0) (bX gd (pv 1) aE) (λ_ _=>rfl)) aE (λ_ _=>rfl)))
   (am (cF (cD gg (pv 2) aE (bR _))
    (aA (aY iE))
    bI)
   (aA (aY (eI (dM va (pv 2) (pv 1) (bR _)) (eI (dM vc (pv 2) (i4 b.len (pv 0)) (bR _)) (jL (dM gg (bi aZ (bi aZ (pv 0) (bX gd (pv 2) aE) (λ_ _=>rfl)) aE (λ_ _=>rfl)) (pv 1) (bR _))))))))),?_⟩
  refine ⟨_,rfl,_,rfl,_,_,rfl,rfl,lt,_,_,_,rfl,rfl, .of hl,at_of (j:=i) (by omega) (bC hp),p,_,2,_,rfl,rfl, .of pW,at_of (j:=2) rfl rfl,?_⟩;refine ⟨_,rfl,rfl,_,rfl,?_⟩;by_cases hc:x.2.2=0
  ·refine eqT hc ?_;exact ck q (by rw [epr,decide_eq_true hc];rfl)
  ·refine LO hc ?_;rw [epr,decide_eq_false hc,decide_eq_true (by omega:1<=x.2.2)] at q;refine ⟨_,rfl,_,rfl,rfl,_,rfl,?_⟩;by_cases gp:x.2.2=z
   ·refine Rw gp ?_;exact ck q (by rw [decide_eq_false (by omega: ¬x.2.2≠(i:Int)+1)];rfl)
   ·refine neT gp ?_;rw [decide_eq_true (by omega:x.2.2≠(i:Int)+1)] at q;refine ⟨_,rfl,_,rfl,lt,_,rfl, .inl (.of hl),_,_,rfl,rfl,_,rfl,?_⟩;have rl:((ps.map V.ref).length:Int)=l.length:=by rw [ab,gL.1]
    by_cases hlen:x.2.2<=(l.length:Int)
    ·refine dT (by rw [rl];exact hlen) ?_;obtain ⟨y,hy⟩: ∃y,l[(x.2.2-1).toNat]?=some y:=⟨_,ao (by omega)⟩
     obtain ⟨p',Fi,TW⟩:=gL.get hy;rw [hy] at q;refine ⟨_,rfl,_,rfl,_,_,rfl,rfl,lt,_,_,_,rfl,rfl, .of hl,at_of (j:=(x.2.2-1).toNat) (by omega) (bC Fi),p',_,2,_,rfl,rfl, .of TW,at_of (j:=2) rfl rfl,_,rfl,rfl,?_⟩;refine ck q ?_;rw [dV,hz];rfl
    ·refine dF (by rw [rl];exact hlen) ?_;have hy:l[(x.2.2-1).toNat]?=none:=by rw [kS];omega
     rw [hy] at q;exact ck q rfl
def pL:bh ["threes","place"] ["threes"] (aS (top 76)):=fE
def DV (D:Dn K mg "are_partners_right" (top 76) ["threes"]) (b:Bl mg) (G:Fn P w K mg base "is_partner_right" 1 ["threes","place"] Ao):Fn P w K mg base "are_partners_right" 2 ["threes"] xB:=by
 refine D.fn λf fd F=>F.ok pL (λvs H Q E h=>?_) (λdD A outer s H vs Q E hr h=>?_)
 ·obtain ⟨_,_,rfl,_⟩:=h;rfl
 ·obtain ⟨lt,l,rfl,hT,h0,OI,q⟩:=h;obtain ⟨ps,hl,gL⟩:=id hT;have rl:((ps.map V.ref).length:Int)=l.length:=by rw [ab,gL.1]
  refine ⟨_,(aA (aY (d9 (Lb rfl) rfl b.all wu (ae (iD rfl pL.nd (iL rfl b.range (ae aE (ae (bX fN (i4 b.len (pv 0)) aE) ax))) (cX (own:= [("place",1)]) (by kernel_rfl))
    (λ_ _ _ _ _=>(gn 1 pL.nd)) (λ_ _ _ _ _=>fw)
    (λ_ _ _ _ _=>(pc G (hr.mono (by decide)) (ae (pv 0) (ae (pv 1) ax))))) ax)))),?_⟩
  refine ⟨_,rfl,lt,_,rfl, .inl (.of hl),_,_,rfl,rfl,_,_,rfl,?_,λD hD=>?_⟩
  ·rw [rl];exact ⟨by omega,by omega,by omega,by omega⟩
  refine Bp (lo:=1) (λn H'=>aB H H'/\H' D=some (.lst (((bb n).map (nA l)).map V.bl))) ⟨aB.new hD,ak⟩ ?_ ?_
  ·rintro n H1 hn ⟨s1,h1⟩;rw [rl] at hn;have hn:n<l.length:=by omega
   refine ⟨rfl,_,rfl,_,rfl,lt,l,n,_,rfl,by omega,hT.mono s1,hn,h0,_,h1,?_,aB.put s1 hD,?_⟩
   ·rw [ab,ab,bZ];have:sizeLine=16777216:=adY;omega
   ·rw [ak,eh,aO,aO];rfl
  ·rintro H1 ⟨s1,h1⟩;have en:((((ps.map V.ref).length:Nat):Int)+1-1).toNat=l.length:=by rw [rl];omega
   have h1:H1 D=some (.lst (((bb l.length).map (nA l)).map V.bl)):=by rw [<-en];exact h1
   refine ⟨D,_,rfl, .of h1,?_⟩;rw [show (((bb l.length).map (nA l)).all id)=partnersRight l by rw [u9,ng];rfl];exact q H1 s1
end
end Lf
namespace Lf
open Vbahaf (threes risesTo spansOf partnersRight fareOf single outward homeward together cut pay)
def ke (i:Int) (l:List gP):Nat->Int
 |0=>i
 |m+1=>(l[m]?.map λx=>x.1).getD i
def AI: ∀{l:List gP} {n i:Int},risesTo n i l=true->i<=n
 | [],n,i,h=>by
  have:i=n:=by simpa [risesTo] using h
  omega
 |x::l,n,i,h=>by
  have h:(decide (i<x.1)&&risesTo n x.1 l)=true:=h;rw [aU] at h;have h1:i<x.1:=by simpa using h.1
  have:=AI h.2;omega
def Am: ∀{l:List gP} {n i:Int} {m:Nat} {x:gP},risesTo n i l=true->0<=i->l[m]?=some x->(spansOf i l)[m]?=some ((ke i l m).toNat,x.1.toNat)/\0<=ke i l m/\ke i l m<x.1/\x.1<=n
 | [],_,_,_,_,_,_,h=>by simp at h
 |y::l,n,i,0,x,hr,hi,h=>by
  have e:y=x:=by simpa using h
  subst e;have hr:(decide (i<y.1)&&risesTo n y.1 l)=true:=hr;rw [aU] at hr;have h1:i<y.1:=by simpa using hr.1
  exact ⟨rfl,hi,h1,AI hr.2⟩
 |y::l,n,i,m+1,x,hr,hi,h=>by
  have hr:(decide (i<y.1)&&risesTo n y.1 l)=true:=hr;rw [aU] at hr;have h1:i<y.1:=by simpa using hr.1
  have h:l[m]?=some x:=by simpa using h
  have ih:=Am hr.2 (by omega) h;have es:ke i (y::l) (m+1)=ke y.1 l m:=by
   cases m with
   |zero=>rfl
   |succ k=>
    obtain ⟨z,hz⟩: ∃z,l[k]?=some z:=⟨_,ao (by have:=(aK.mp h).1;omega)⟩
    show ((y::l)[k+1]?.map λx=>x.1).getD i=(l[k]?.map λx=>x.1).getD y.1;rw [Cj,hz];rfl
  rw [es];exact ih
def iK: ∀(l:List gP) (i:Int),(spansOf i l).length=l.length
 | [],_=>rfl
 |x::l,i=>by
  show (spansOf x.1 l).length+1=_;rw [iK l x.1];rfl
def f0:aq:={key:=0,carrier:=0,src:=0,dst:=0,way:=0,amount:=0,classes:=0,weekdays:=0,ahead:=0,leastStay:=0,mostStay:=0,group:=0,open_:=0,kinds:=0,segs:=0}
def qL (s:ag) (k:Int):aq:=(fareOf s k).getD f0
def oV (K:aa) (H:Hp) (s:ag) (j:ai) (lc:Addr) (sp:List (Nat×Nat)):Prop:= ∃lR:List Addr,H lc=some (.lst (lR.map V.ref))/\bQ (λa c=>eJ K H (λ_=>False) s j c.1 c.2 a) lR sp
def oV.mono {K:aa} {H H':Hp} {s:ag} {j:ai} {lc:Addr} {sp:List (Nat×Nat)} (h:oV K H s j lc sp) (e:aB H H'):oV K H' s j lc sp:=by
 obtain ⟨lR,h1,h2⟩:=h;exact ⟨lR,e _ _ h1,h2.mono λ_ _ z=>z.mono e⟩
def pI (K:aa):Sp:=λvs H Q _=> ∃(h:HA) (s:ag) (fl:List aq) (j:ai) (lt:Addr) (l:List gP),vs= [.ref h.a, .ref lt]/\ba K H h s fl/\s.journey=some j/\fU H lt l/\risesTo j.segs.length 0 l=true/\l.length<=20/\
 ∀(H':Hp) (lc:Addr),aB H H'->oV K H' s j lc (spansOf 0 l)->Q (.ref lc) H'
def Ja (s:ag) (j:ai) (af:Int) (y:(Nat×Nat)×gP):Bool:=decide (y.2.2.2≠0)||single j af (qL s y.2.2.1) (cut j y.1.1 y.1.2)
def IH (K:aa):Sp:=λvs H Q _=> ∃(h:HA) (s:ag) (fl:List aq) (j:ai) (af:Int) (lt lc:Addr) (l:List gP) (sp:List (Nat×Nat)),vs= [.ref h.a, .int af, .ref lt, .ref lc]/\ba K H h s fl/\s.journey=some j/\0<=af/\fU H lt l/\oV K H s j lc sp/\sp.length=l.length/\(l.all λx=>(fareOf s x.2.1).isSome)=true/\
 ∀H',aB H H'->Q (.bl ((sp.zip l).all (Ja s j af))) H'
def zQ.get {K:aa} {H:Hp} {s:ag} {kvs:List (Key×V)} (x:zQ K H s kvs) (ok:kM s) {l:List gP} (h:(l.all λx=>(fareOf s x.2.1).isSome)=true) {y:gP} (hy:y∈l): ∃fa,cx kvs (az y.2.1)=some (.ref fa)/\dB K H fa (qL s y.2.1)/\qL s y.2.1∈s.fares:=by
 have hs:(fareOf s y.2.1).isSome=true:=bJ.mp h y hy;cases e:fareOf s y.2.1 with
 |none=>rw [e] at hs;cases hs
 |some f=>
  obtain ⟨fa,a,b,_⟩:=x.xD _ f e;have ef:qL s y.2.1=f:=by unfold qL;rw [e];rfl
  rw [ef];exact ⟨fa,a,b,((i3 ok).mp e).1⟩
section
variable {P:adT} {w:adQ} {K:aa} {mg:Str->Option Value} {base:adO} {t:CA}
def iX:bh ["house","threes","found","first","three"] ["house","threes"] (aS (top 77)):=fE
def BE (D:Dn K mg "find_components" (top 77) ["house","threes"]) (G:Cl P w K mg base "Component" t.cN 2 ["self","house","first","last"] (yL K t.cN)):Fn P w K mg base "find_components" 4 ["house","threes"] (pI K):=by
 refine D.fn λf fd F=>F.ok iX (λvs H Q E h=>?_) (λdD A outer s H vs Q E hr h=>?_)
 ·obtain ⟨_,_,_,_,_,_,rfl,_⟩:=h;rfl
 ·obtain ⟨h,s,fl,j,lt,l,rfl,hh,hj,⟨ps,hl,gL⟩,Cq,OI,q⟩:=h;refine ⟨_,(am (st 2 iX.nd (bK ax))
   (am (st 3 iX.nd aE)
   (am (dw PassesOwn.never rfl (cE (pv 1)) (gn 4 iX.nd)
    (am (eO (BJ (pv 2) (Ly G (hr.mono (by decide)) (ae (pv 0) (ae (pv 3) (ae (bX gd (bi aZ (pv 4) aE (λ_ _=>rfl)) aE) ax))))))
   (aA (st 3 iX.nd (bi aZ (pv 4) aE (λ_ _=>rfl))))))
   (aA (aY (pv 2)))))),?_⟩
  refine ⟨bv _,λlf S9=>?_⟩;have s1:aB H (upd H lf (.lst [])):=aB.new S9;refine ⟨_,rfl,lt,rfl,⟨_, .of (s1 _ _ hl)⟩,fc (K:=K) (a:=lt) (xs:=ps.map V.ref) (λm σ H'=>(∃v4,σ= [some (.ref h.a),some (.ref lt),some (.ref lf),some (.int (ke 0 l m)),v4])/\aB H H'/\∃lR:List Addr,H' lf=some (.lst (lR.map V.ref))/\bQ (λa c=>eJ K H' (λb=>b=lf) s j c.1 c.2 a) lR ((spansOf 0 l).take m)) ⟨⟨_,rfl⟩,s1,[],ak,bQ.nil⟩ (λm σ H' _ ⟨_,sm,_⟩=> .of (sm _ _ hl)) ?_ ?_⟩
  ·rintro m y σ H1 hy ⟨⟨v4,rfl⟩,s2,lR,hc,nL⟩;obtain ⟨p,hp,rfl⟩:=b0 hy;obtain ⟨x,hx,pW⟩:=gL.get' hp;obtain ⟨g1,g2,g3,g4⟩:=Am Cq (wM 0) hx;refine ⟨_,rfl, .inl ⟨rfl,_, .of hc⟩,_,rfl,_,rfl,_,rfl,p,_,0,_,rfl,rfl, .of (s2 _ _ pW),at_of (j:=0) rfl rfl,_,_,rfl,rfl,λa da na Zz nea=>?_⟩;refine ⟨a,da,H1,h,s,fl,j,(ke 0 l m).toNat,x.1.toNat,_,_,rfl,by omega,by show x.1-1=_;omega,ak,dY na Zz,na,hh.mono s2,hj,by omega,by omega,λH3 s3 c3=>⟨rfl,?_⟩⟩;have YF:=s3 _ _ hc;have up:dH lf H3 (upd H3 lf (.lst (lR.map V.ref++ [.ref a]))):=dH.upd;refine ⟨lf,_,_,rfl,rfl,YF,?_,?_⟩
   ·rw [ab,nL.1,bc];rw [iK];have:sizeLine=16777216:=adY;omega
   ·refine ⟨_,rfl,p,_,0,_,rfl,rfl, .of (bp (s3 _ _ (s2 _ _ pW)) (aG pW S9)),at_of (j:=0) rfl rfl,⟨some (.ref p),?_⟩,aB.put (s2.trans s3) S9,lR++ [a],by rw [ak,dX],?_⟩
    ·have:ke 0 l (m+1)=x.1:=by show (l[m]?.map λx=>x.1).getD 0=_;rw [hx];rfl
     rw [this];rfl
    ·rw [dQ g1];exact (nL.mono λ_ _ z=>(z.mono s3).but rfl YF up).snoc ((c3.weak λb hb=>by
      subst hb;exact ⟨_,dY na Zz _ _ hc⟩).but rfl YF up)
  ·rintro σ H1 ⟨⟨v4,rfl⟩,s2,lR,hc,nL⟩;rw [ab,gL.1, <-iK l 0,bq] at nL;exact ⟨_,rfl,q H1 lf s2 ⟨lR,hc,nL.mono λ_ _ z=>z.weak λ_ y=>y.elim⟩⟩
def yO:bh ["house","kind","threes","components","three","component"] ["house","kind","threes","components"] (aS (top 78)):=fE
def No (D:Dn K mg "do_singles_fit" (top 78) ["house","kind","threes","components"]) (b:Bl mg) (G:Fn P w K mg base "fits_singly" 4 ["fare","component","kind"] (kg K single)):Fn P w K mg base "do_singles_fit" 5 ["house","kind","threes","components"] (IH K):=by
 refine D.fn λf fd F=>F.ok yO (λvs H Q E h=>?_) (λdD A outer s H vs Q E hr h=>?_)
 ·obtain ⟨_,_,_,_,_,_,_,_,_,rfl,_⟩:=h;rfl
 ·obtain ⟨h,s,fl,j,af,lt,lc,l,sp,rfl,hh,hj,hk,⟨ps,hl,gL⟩,⟨lR,hc,nL⟩,hlen,hall,q⟩:=h;have hu:=jP hr;have hJ:=hh.ok.jo j hj;obtain ⟨kvs,hf,fd⟩:=hh.vN;refine ⟨_,(am (dw PassesOwn.never rfl (Jq rfl b.zip (ae (pv 2) (ae (pv 3) ax))) (kH rfl (cH (gn 4 yO.nd) (cH (gn 5 yO.nd) g8)))
    (aA (cF (pM (cD gg (bi aZ (pv 4) aE (λ_ _=>rfl)) aE (bR _)) (l5 (ip (eV (pc G (hr.mono (by decide)) (ae (oH hu (aT (pv 0) rfl) (bi aZ (pv 4) aE (λ_ _=>rfl)) (λ_ _=>rfl)) (ae (pv 5) (ae (pv 1) ax)))))))).pt
    (aA (aY iE))
    bI)))
   (aA (aY iE))),?_⟩
  refine ⟨_,rfl,_,rfl,lt,lc,_,_,rfl, .of hl, .of hc,ml (n:=l.length) (λm σ H'=>(∃v4 v5,σ= [some (.ref h.a),some (.int af),some (.ref lt),some (.ref lc),v4,v5])/\aB H H'/\((sp.zip l).take m).all (Ja s j af)=true) ⟨⟨_,_,rfl⟩,aB.refl H,rfl⟩ (λm σ H' hm ⟨_,sm,_⟩=>?_) (λσ H' ⟨_,sm,_⟩=>⟨_,_, .of (sm _ _ hl), .of (sm _ _ hc), .inl (by rw [ab,gL.1];exact ay _)⟩) ?_ ?_⟩
  ·obtain ⟨p,hp⟩: ∃p,ps[m]?=some p:=⟨_,ao (by rw [gL.1];exact hm)⟩
   obtain ⟨a,ha⟩: ∃a,lR[m]?=some a:=⟨_,ao (by rw [nL.1,hlen];exact hm)⟩
   exact ⟨_,_,_,_, .of (sm _ _ hl), .of (sm _ _ hc),bC hp,bC ha⟩
  ·rintro m σ H1 v O0 hm ⟨⟨v4,v5,rfl⟩,s1,cO⟩ ⟨T,vx,vy,rfl,hT,rfl,TH,XV⟩;obtain ⟨p,hp,rfl⟩:=b0 (TH _ (.of (s1 _ _ hl)));obtain ⟨a,ha,rfl⟩:=b0 (XV _ (.of (s1 _ _ hc)));obtain ⟨x,hx,pW⟩:=gL.get' hp;obtain ⟨c,RK,cat⟩:=nL.get' ha;have s2:aB H1 (upd H1 T (.tup [.ref p, .ref a])):=aB.new hT;have io:=s1.trans s2;have hz:(sp.zip l)[m]?=some (c,x):=cf.mpr ⟨RK,hx⟩;refine ⟨T,_,rfl, .of ak,rfl,_,_,rfl,_,_,rfl,rfl,?_⟩;refine ⟨_,rfl,p,_,2,_,rfl,rfl, .of (io _ _ pW),at_of (j:=2) rfl rfl,rfl,_,rfl,?_⟩;have good:Ja s j af (c,x)=true->((sp.zip l).take (m+1)).all (Ja s j af)=true:=λe=>by rw [dQ hz,il,cO,gq,e];rfl
   by_cases h0:x.2.2=0
   ·refine eqT h0 ?_;obtain ⟨fa,e1,rT,fm⟩:=fd.get hh.ok hall (aI hx);refine ⟨_,rfl,aH (hh.hZ.mono io) ⟨_,rfl,p,_,1,_,rfl,rfl, .of (io _ _ pW),at_of (j:=1) rfl rfl,h.f,_,rfl, .inl ⟨kvs,az x.2.1, .inl (io _ _ hf),rfl,e1.symm⟩,_,rfl,_,rfl,fa,a,_,s,j,c.1,c.2,af,_,rfl,rT.mono io,cat.mono io,hk,hJ,_,rfl,?_⟩⟩;refine iB (λe2=>?_) (λe2=>?_)
    ·have e2:single j af (qL s x.2.1) (cut j c.1 c.2)=false:=by simpa using e2
     refine ck (q _ io) ?_;rw [iJ];refine ⟨(c,x),aI hz,?_⟩;unfold Ja;rw [decide_eq_false (λz=>z h0),e2];exact aJ
    ·have e2:single j af (qL s x.2.1) (cut j c.1 c.2)=true:=by simpa using e2
     exact ⟨⟨_,_,rfl⟩,io,good (by unfold Ja;rw [e2,Bool.or_true])⟩
   ·refine LO h0 (tq ?_);exact ⟨⟨_,_,rfl⟩,io,good (by unfold Ja;rw [decide_eq_true h0];rfl)⟩
  ·rintro σ H1 ⟨⟨v4,v5,rfl⟩,s1,cO⟩;rw [cp (by rw [eA,hlen,tN];exact ay _)] at cO;exact ck (q _ s1) cO
end
end Lf
namespace Lf
open Vbahaf (threes risesTo spansOf partnersRight fareOf single outward homeward together cut pay checked)
def kD (s:ag) (j:ai) (sp:List (Nat×Nat)) (l:List gP):List (cG×aq×Int):=(sp.zip l).map λy=>(cut j y.1.1 y.1.2,qL s y.2.2.1,y.2.2.2)
def HU (s:ag) (j:ai) (af:Int) (xs:List (cG×aq×Int)) (i:Nat):Bool:=match xs[i]? with
 |none=>true
 |some x=>decide (x.2.2<=(i:Int)+1)||(match xs[(x.2.2-1).toNat]? with
  |none=>false
  |some y=>outward j af x.2.1 x.1&&(homeward j af y.2.1 y.1&&together s x.2.1 y.2.1 x.1 y.1))
def yy {s:ag} {j:ai} {sp:List (Nat×Nat)} {l:List gP} {i:Nat} {c:Nat×Nat} {x:gP} (hc:sp[i]?=some c) (hx:l[i]?=some x):(kD s j sp l)[i]?=some (cut j c.1 c.2,qL s x.2.1,x.2.2):=by
 unfold kD;have hz:(sp.zip l)[i]?=some (c,x):=cf.mpr ⟨hc,hx⟩;rw [br,hz];rfl
def Ac {s:ag} {j:ai} {sp:List (Nat×Nat)} {l:List gP} (h:sp.length=l.length):(kD s j sp l).length=l.length:=by
 unfold kD;rw [ab,eA,h,tN]
def A6 {l:List gP} (h:partnersRight l=true) {i:Nat} {x:gP} (hx:l[i]?=some x) (h0:x.2.2≠0): ∃y,l[(x.2.2-1).toNat]?=some y:=by
 rw [u9,bJ] at h;have:=h i (bE.mpr (aK.mp hx).1);unfold nA at this;rw [hx] at this;simp only [decide_eq_false h0,rf,aU] at this;cases e:l[(x.2.2-1).toNat]? with
 |some y=>exact ⟨y,rfl⟩
 |none=>rw [e] at this;exact absurd this.2.2 aJ
def IK (K:aa):Sp:=λvs H Q _=> ∃(h:HA) (s:ag) (fl:List aq) (j:ai) (af:Int) (lt lc:Addr) (l:List gP) (sp:List (Nat×Nat)),vs= [.ref h.a, .int af, .ref lt, .ref lc]/\ba K H h s fl/\s.journey=some j/\0<=af/\fU H lt l/\oV K H s j lc sp/\sp.length=l.length/\(l.all λx=>(fareOf s x.2.1).isSome)=true/\partnersRight l=true/\
 ∀H',aB H H'->Q (.bl ((bb l.length).all (HU s j af (kD s j sp l)))) H'
def codeOf (s:ag) (j:ai) (af:Int) (l:List gP):Int:=
 if risesTo j.segs.length 0 l=false then 1
 else if (l.all λx=>(fareOf s x.2.1).isSome)=false then 2
 else if partnersRight l=false then 3
 else if ((spansOf 0 l).zip l).all (Ja s j af)=false then 4
 else if (bb l.length).all (HU s j af (kD s j (spansOf 0 l) l))=false then 5
 else 0
def N8 (s:ag) (j:ai) (af:Int) (l:List gP):Int:=((kD s j (spansOf 0 l) l).map λx=>pay s af x.2.1 x.1).sum
def D7 {s:ag} {j:ai} {af:Int} {l:List gP} (h1:1<=j.segs.length):checked s j af l=(codeOf s j af l,if codeOf s j af l=0 then N8 s j af l else 0):=by
 unfold checked codeOf;by_cases c1:risesTo j.segs.length 0 l=false
 ·rw [if_pos (.inl c1),if_pos c1];rfl
 ·have gp:l≠ []:=λe=>by
   subst e;apply c1;show decide ((0:Int)=j.segs.length)=false;exact decide_eq_false (by omega)
  rw [if_neg (λz=>z.elim c1 gp),if_neg c1];by_cases c2:(l.all λx=>(fareOf s x.2.1).isSome)=false
  ·rw [if_pos c2,if_pos c2];rfl
  ·rw [if_neg c2,if_neg c2];by_cases c3:partnersRight l=false
   ·rw [if_pos c3,if_pos c3];rfl
   ·rw [if_neg c3,if_neg c3];have c2:(l.all λx=>(fareOf s x.2.1).isSome)=true:=lP _▸c2;have ex:(((spansOf 0 l).map λc=>cut j c.1 c.2).zip l).filterMap (λx=>(fareOf s x.2.2.1).map λf=>(x.1,f,x.2.2.2))=kD s j (spansOf 0 l) l:=by
     unfold kD;rw [List.zip_map_left,Ie, <-List.filterMap_eq_map];refine fF λy hy=>?_;have hm:y.2∈l:=by
      obtain ⟨i,hi⟩:=dL.mp hy;exact aI (cf.mp hi).2
     have hs:(fareOf s y.2.2.1).isSome=true:=bJ.mp c2 _ hm;show (fareOf s y.2.2.1).map _=some _;unfold qL;cases e:fareOf s y.2.2.1 with
     |none=>rw [e] at hs;cases hs
     |some f=>simp only [e];rfl
    simp only [ex];have e4:((kD s j (spansOf 0 l) l).all λx=>decide (x.2.2≠0)||single j af x.2.1 x.1)=((spansOf 0 l).zip l).all (Ja s j af):=by
     unfold kD;rw [ng];rfl
    rw [e4,Ac (iK l 0)];by_cases c4:((spansOf 0 l).zip l).all (Ja s j af)=false
    ·rw [if_pos c4,if_pos c4];rfl
    ·rw [if_neg c4,if_neg c4];by_cases c5:(bb l.length).all (HU s j af (kD s j (spansOf 0 l) l))=false
     ·rw [if_pos c5];exact (if_pos c5)
     ·rw [if_neg c5];refine (if_neg c5).trans ?_;rw [lx,oy];rfl
section
variable {P:adT} {w:adQ} {K:aa} {mg:Str->Option Value} {base:adO} {t:CA}
def oB:bh ["house","kind","threes","components","place","three","partner","fare_out","fare_home"] ["house","kind","threes","components"] (aS (top 79)):=fE
def Np (D:Dn K mg "do_returns_fit" (top 79) ["house","kind","threes","components"]) (b:Bl mg) (G:Fn P w K mg base "make_return" 5 ["house","kind","fare_out","out","fare_home","home"] (An K)):Fn P w K mg base "do_returns_fit" 6 ["house","kind","threes","components"] (IK K):=by
 refine D.fn λf fd F=>F.ok oB (λvs H Q E h=>?_) (λdD A outer s H vs Q E hr h=>?_)
 ·obtain ⟨_,_,_,_,_,_,_,_,_,rfl,_⟩:=h;rfl
 ·obtain ⟨h,s,fl,j,af,lt,lc,l,sp,rfl,hh,hj,hk,⟨ps,hl,gL⟩,⟨lR,hc,nL⟩,hlen,hall,VO,q⟩:=h;have hu:=jP hr;obtain ⟨kvs,hf,fd⟩:=hh.vN;refine ⟨_,(am (dw PassesOwn.never rfl (AY rfl b.enumerate (pv 2)) (kH rfl (cH (gn 4 oB.nd) (cH (gn 5 oB.nd) g8)))
    (aA (cF (cD A7 (bi aZ (pv 5) aE (λ_ _=>rfl)) (pv 4) (bR _))
    (am (st 6 oB.nd (bi aZ (pv 2) (bX gd (bi aZ (pv 5) aE (λ_ _=>rfl)) aE) (λ_ _=>rfl)))
   (am (st 7 oB.nd (oH hu (aT (pv 0) rfl) (bi aZ (pv 5) aE (λ_ _=>rfl)) (λ_ _=>rfl)))
   (am (st 8 oB.nd (oH hu (aT (pv 0) rfl) (bi aZ (pv 6) aE (λ_ _=>rfl)) (λ_ _=>rfl)))
   (aA (cF (ip (eV (pc G (hr.mono (by decide)) (ae (pv 0) (ae (pv 1) (ae (pv 7) (ae (bi aZ (pv 3) (bX gd (pv 4) aE) (λ_ _=>rfl)) (ae (pv 8) (ae (bi aZ (pv 3) (bX gd (bi aZ (pv 5) aE (λ_ _=>rfl)) aE) (λ_ _=>rfl)) ax)))))))))
    (aA (aY iE))
    bI)))))
    bI)))
   (aA (aY iE))),?_⟩
  refine ⟨_,rfl,lt,_,rfl, .of hl,ml (n:=l.length) (λm σ H'=>(∃v4 v5 v6 v7 v8,σ= [some (.ref h.a),some (.int af),some (.ref lt),some (.ref lc),v4,v5,v6,v7,v8])/\aB H H'/\(bb m).all (HU s j af (kD s j sp l))=true) ⟨⟨_,_,_,_,_,rfl⟩,aB.refl H,rfl⟩ (λm σ H' hm ⟨_,sm,_⟩=>?_) (λσ H' ⟨_,sm,_⟩=>⟨_, .of (sm _ _ hl),by rw [ab,gL.1];exact ay _⟩) ?_ ?_⟩
  ·obtain ⟨p,hp⟩: ∃p,ps[m]?=some p:=⟨_,ao (by rw [gL.1];exact hm)⟩
   exact ⟨_,_, .of (sm _ _ hl),bC hp⟩
  ·rintro m σ H1 v O0 hm ⟨⟨v4,v5,v6,v7,v8,rfl⟩,s1,cO⟩ ⟨T,vx,rfl,hT,rfl,TH⟩;obtain ⟨p,hp,rfl⟩:=b0 (TH _ (.of (s1 _ _ hl)));obtain ⟨x,hx,pW⟩:=gL.get' hp;obtain ⟨c,RK⟩: ∃c,sp[m]?=some c:=⟨_,ao (by rw [hlen];exact hm)⟩
   obtain ⟨a,ha,cat⟩:=nL.get RK;have s2:aB H1 (upd H1 T (.tup [.int ((m:Int)+1), .ref p])):=aB.new hT;have io:=s1.trans s2;have VL:=yy (s:=s) (j:=j) RK hx;refine ⟨T,_,rfl, .of ak,rfl,_,_,rfl,_,_,rfl,rfl,?_⟩;refine ⟨_,rfl,p,_,2,_,rfl,rfl, .of (io _ _ pW),at_of (j:=2) rfl rfl,_,rfl,_,_,rfl,rfl,_,rfl,?_⟩;have good:HU s j af (kD s j sp l) m=true->(bb (m+1)).all (HU s j af (kD s j sp l))=true:=λe=>by rw [eh,il,cO,gq,e];rfl
   by_cases Z5:(m:Int)+1<x.2.2
   ·refine dT Z5 ?_;obtain ⟨y,hy⟩:=A6 VO hx (by omega);obtain ⟨p',Fi,TW⟩:=gL.get hy;obtain ⟨d,Z8⟩: ∃d,sp[(x.2.2-1).toNat]?=some d:=⟨_,ao (by rw [hlen];exact (aK.mp hy).1)⟩
    obtain ⟨a',Uz,Q5⟩:=nL.get Z8;have XO:=yy (s:=s) (j:=j) Z8 hy;obtain ⟨fa,e1,rT,fm⟩:=fd.get hh.ok hall (aI hx);obtain ⟨fb,e2,fbt,gm⟩:=fd.get hh.ok hall (aI hy);have UT:HU s j af (kD s j sp l) m=(outward j af (qL s x.2.1) (cut j c.1 c.2)&&(homeward j af (qL s y.2.1) (cut j d.1 d.2)&&together s (qL s x.2.1) (qL s y.2.1) (cut j c.1 c.2) (cut j d.1 d.2))):=by
     unfold HU;rw [VL];show (decide (x.2.2<=(m:Int)+1)||(match (kD s j sp l)[(x.2.2-1).toNat]? with
      |none=>false
      |some y=>_))=_
     rw [XO,decide_eq_false (by omega)];rfl
    refine ⟨_,rfl,_,rfl,p,_,2,_,rfl,rfl, .of (io _ _ pW),at_of (j:=2) rfl rfl,_,_,rfl,rfl,lt,_,_,_,rfl,rfl, .of (io _ _ hl),at_of (j:=(x.2.2-1).toNat) (by show x.2.2-1=_;omega) (bC Fi),?_⟩;refine ⟨_,rfl,aH (hh.hZ.mono io) ⟨_,rfl,p,_,1,_,rfl,rfl, .of (io _ _ pW),at_of (j:=1) rfl rfl,h.f,_,rfl, .inl ⟨kvs,az x.2.1, .inl (io _ _ hf),rfl,e1.symm⟩,?_⟩⟩;refine ⟨_,rfl,aH (hh.hZ.mono io) ⟨_,rfl,p',_,1,_,rfl,rfl, .of (io _ _ TW),at_of (j:=1) rfl rfl,h.f,_,rfl, .inl ⟨kvs,az y.2.1, .inl (io _ _ hf),rfl,e2.symm⟩,?_⟩⟩;refine ⟨_,rfl,_,rfl,_,rfl,_,rfl,_,rfl,_,_,rfl,rfl,lc,_,_,_,rfl,rfl, .of (io _ _ hc),at_of (j:=m) (by show (m:Int)+1-1=_;omega) (bC ha),_,rfl,_,rfl,_,rfl,p,_,2,_,rfl,rfl, .of (io _ _ pW),at_of (j:=2) rfl rfl,_,_,rfl,rfl,lc,_,_,_,rfl,rfl, .of (io _ _ hc),at_of (j:=(x.2.2-1).toNat) (by show x.2.2-1=_;omega) (bC Uz),?_⟩;refine ⟨h,s,fl,j,af,fa,a,fb,a',_,_,c.1,c.2,d.1,d.2,_,_,rfl,hh.mono io,hj,hk,rT.mono io,fbt.mono io,fm,gm,cat.mono io,Q5.mono io,λH2 s3=>⟨_,rfl,?_⟩⟩;refine iB (λe3=>?_) (λe3=>?_)
    ·have e3:HU s j af (kD s j sp l) m=false:=by rw [UT];exact fq _▸e3
     refine ck (q _ (io.trans s3)) ?_;rw [iJ];exact ⟨m,bE.mpr hm,by rw [e3];exact aJ⟩
    ·have e3:HU s j af (kD s j sp l) m=true:=by rw [UT];exact im _▸e3
     exact ⟨⟨_,_,_,_,_,rfl⟩,io.trans s3,good e3⟩
   ·refine dF Z5 ?_;refine ⟨⟨_,_,_,_,_,rfl⟩,io,good ?_⟩;unfold HU;rw [VL];show (decide (x.2.2<=(m:Int)+1)||_)=true;rw [decide_eq_true (by omega)];rfl
  ·rintro σ H1 ⟨⟨v4,v5,v6,v7,v8,rfl⟩,s1,cO⟩;exact ck (q _ s1) cO
end
end Lf
namespace Lf
open Vbahaf (threes risesTo spansOf partnersRight fareOf single outward homeward together cut pay checked)
def FP (K:aa) (vs:List V) (H:Hp) (R:ag->ai->Int->List gP->Prop):Prop:= ∃(h:HA) (s:ag) (fl:List aq) (j:ai) (af:Int) (lt:Addr) (l:List gP),vs= [.ref h.a, .int af, .ref lt]/\ba K H h s fl/\s.journey=some j/\(0<=af/\af<=4)/\fU H lt l/\l.length<=20/\(∀x∈l,0<=x.2.2)/\R s j af l
def Et (K:aa):Sp:=λvs H Q _=>FP K vs H λs j af l=> ∀H',aB H H'->Q (.int (codeOf s j af l)) H'
def Ex (K:aa):Sp:=λvs H Q _=>FP K vs H λs j af l=>risesTo j.segs.length 0 l=true/\(l.all λx=>(fareOf s x.2.1).isSome)=true/\∀H',aB H H'->Q (.int (N8 s j af l)) H'
def EJ (K:aa):Sp:=λvs H Q _=> ∃(h:HA) (s:ag) (fl:List aq) (j:ai) (af:Int) (lw:Addr) (rw:List Int),vs= [.ref h.a, .int af, .ref lw]/\ba K H h s fl/\s.journey=some j/\(0<=af/\af<=4)/\H lw=some (.lst (rw.map V.int))/\rw.length<=24/\rw.length%3=0/\(∀x∈threes rw,0<=x.2.2)/\
 ∀(H':Hp) (l:Addr),aB H H'->H' l=some (.lst [.int (checked s j af (threes rw)).1, .int (checked s j af (threes rw)).2])->Q (.ref l) H'
def za (ns rw:List Int):Prop:= ∃af:Int,ns= [af]/\(0<=af/\af<=4)/\rw.length<=24/\rw.length%3=0/\∀x∈threes rw,0<=x.2.2
def DS (s:ag) (j:ai) (ns rw:List Int):List Int:=let x:=checked s j (ns.getD 0 0) (threes rw); [0,x.1,x.2]
def Br {c:Bool} {A B:Prop} (h1:c=false->A) (h2:c=true->B):if (!c)=true then A else B:=by
 cases c with
 |true=>exact (if_neg aJ).mpr (h2 rfl)
 |false=>exact (if_pos rfl).mpr (h1 rfl)
section
variable {P:adT} {w:adQ} {K:aa} {mg:Str->Option Value} {base:adO} {t:CA}
def Ay:bh ["house","kind","threes","components"] ["house","kind","threes"] (aS (top 80)):=fE
def Kh (D:Dn K mg "find_wrong" (top 80) ["house","kind","threes"]) (c:Cs mg) (G1:Fn P w K mg base "is_cut_right" 1 ["house","threes"] (Og K)) (G2:Fn P w K mg base "are_fares_there" 1 ["house","threes"] (Ey K)) (G3:Fn P w K mg base "are_partners_right" 2 ["threes"] xB)
  (G4:Fn P w K mg base "find_components" 4 ["house","threes"] (pI K)) (G5:Fn P w K mg base "do_singles_fit" 5 ["house","kind","threes","components"] (IH K)) (G6:Fn P w K mg base "do_returns_fit" 6 ["house","kind","threes","components"] (IK K)):
  Fn P w K mg base "find_wrong" 7 ["house","kind","threes"] (Et K):=by
 refine D.fn λf fd F=>F.ok Ay (λvs H Q E h=>?_) (λdD A outer s H vs Q E hr h=>?_)
 ·obtain ⟨_,_,_,_,_,_,_,rfl,_⟩:=h;rfl
 ·obtain ⟨h,s,fl,j,af,lt,l,rfl,hh,hj,hk,hT,OI,h0,q⟩:=h;refine ⟨_,(am (cF (ip (eV (pc G1 (hr.mono (by decide)) (ae (pv 0) (ae (pv 2) ax)))))
    (aA (aY (kG c.HF)))
    bI)
   (am (cF (ip (eV (pc G2 (hr.mono (by decide)) (ae (pv 0) (ae (pv 2) ax)))))
    (aA (aY (kG c.zP)))
    bI)
   (am (cF (ip (eV (pc G3 (hr.mono (by decide)) (ae (pv 2) ax))))
    (aA (aY (kG c.xm)))
    bI)
   (am (st 3 Ay.nd (pc G4 (hr.mono (by decide)) (ae (pv 0) (ae (pv 2) ax))))
   (am (cF (ip (eV (pc G5 (hr.mono (by decide)) (ae (pv 0) (ae (pv 1) (ae (pv 2) (ae (pv 3) ax)))))))
    (aA (aY (kG c.Eh)))
    bI)
   (am (cF (ip (eV (pc G6 (hr.mono (by decide)) (ae (pv 0) (ae (pv 1) (ae (pv 2) (ae (pv 3) ax)))))))
    (aA (aY (kG c.HL)))
    bI)
   (aA (aY (kG c.kN))))))))),?_⟩
  refine ⟨_,rfl,_,rfl,h,s,fl,j,lt,l,rfl,hh,hj,hT,_,rfl,?_⟩;refine Br (λe1=>?_) (λe1=>?_)
  ·have ec:codeOf s j af l=1:=by unfold codeOf;rw [if_pos e1]
   rw [ec] at q;exact q H (aB.refl H)
  refine ⟨_,rfl,_,rfl,h,s,fl,lt,l,rfl,hh,hT,OI,λH1 s1=>⟨_,rfl,?_⟩⟩;have n1: ¬risesTo j.segs.length 0 l=false:=by rw [e1];simp
  refine Br (λe2=>?_) (λe2=>?_)
  ·have ec:codeOf s j af l=2:=by unfold codeOf;rw [if_neg n1,if_pos e2]
   rw [ec] at q;exact q H1 s1
  have n2: ¬(l.all λx=>(fareOf s x.2.1).isSome)=false:=by rw [e2];simp
  refine ⟨_,rfl,lt,l,rfl,hT.mono s1,h0,OI,λH2 s2=>⟨_,rfl,?_⟩⟩;have io:=s1.trans s2;refine Br (λe3=>?_) (λe3=>?_)
  ·have ec:codeOf s j af l=3:=by unfold codeOf;rw [if_neg n1,if_neg n2,if_pos e3]
   rw [ec] at q;exact q H2 io
  have n3: ¬partnersRight l=false:=by rw [e3];simp
  refine ⟨_,rfl,_,rfl,h,s,fl,j,lt,l,rfl,hh.mono io,hj,hT.mono io,e1,OI,λH3 lc s3 hC=>?_⟩;have wz:=io.trans s3;refine ⟨_,rfl,_,rfl,_,rfl,_,rfl,h,s,fl,j,af,lt,lc,l,_,rfl,hh.mono wz,hj,hk.1,hT.mono wz,hC,iK l 0,e2,λH4 s4=>⟨_,rfl,?_⟩⟩;have VB:=wz.trans s4;refine Br (λe4=>?_) (λe4=>?_)
  ·have ec:codeOf s j af l=4:=by unfold codeOf;rw [if_neg n1,if_neg n2,if_neg n3,if_pos e4]
   rw [ec] at q;exact q H4 VB
  have n4: ¬((spansOf 0 l).zip l).all (Ja s j af)=false:=by rw [e4];simp
  refine ⟨_,rfl,_,rfl,_,rfl,_,rfl,h,s,fl,j,af,lt,lc,l,_,rfl,hh.mono VB,hj,hk.1,hT.mono VB,hC.mono s4,iK l 0,e2,e3,λH5 s5=>⟨_,rfl,?_⟩⟩;have Zr:=VB.trans s5;refine Br (λe5=>?_) (λe5=>?_)
  ·have ec:codeOf s j af l=5:=by unfold codeOf;rw [if_neg n1,if_neg n2,if_neg n3,if_neg n4,if_pos e5]
   rw [ec] at q;exact q H5 Zr
  have n5: ¬(bb l.length).all (HU s j af (kD s j (spansOf 0 l) l))=false:=by rw [e5];simp
  have ec:codeOf s j af l=0:=by unfold codeOf;rw [if_neg n1,if_neg n2,if_neg n3,if_neg n4,if_neg n5]
  rw [ec] at q;exact q H5 Zr
def nn:bh ["house","kind","threes","components","three","one"] ["house","kind","threes"] (aS (top 81)):=fE
def Km (D:Dn K mg "total_of" (top 81) ["house","kind","threes"]) (b:Bl mg) (G1:Fn P w K mg base "find_components" 4 ["house","threes"] (pI K)) (G2:Fn P w K mg base "pays" 1 ["house","kind","fare","component"] (CY K)):
  Fn P w K mg base "total_of" 5 ["house","kind","threes"] (Ex K):=by
 refine D.fn λf fd F=>F.ok nn (λvs H Q E h=>?_) (λdD A outer s H vs Q E hr h=>?_)
 ·obtain ⟨_,_,_,_,_,_,_,rfl,_⟩:=h;rfl
 ·obtain ⟨h,s,fl,j,af,lt,l,rfl,hh,hj,hk,hT,OI,h0,Cq,hall,q⟩:=h;have hu:=jP hr;obtain ⟨kvs,hf,fd⟩:=hh.vN;obtain ⟨ps,hl,gL⟩:=id hT;refine ⟨_,(am (st 3 nn.nd (pc G1 (hr.mono (by decide)) (ae (pv 0) (ae (pv 2) ax))))
   (aA (aY (d9 (zA rfl) rfl b.sum ig (ae (iD rfl nn.nd (Jq rfl b.zip (ae (pv 2) (ae (pv 3) ax))) (cX (own:= [("three",4),("one",5)]) (by kernel_rfl))
    (λ_ _ _ _ _=>(gT K (n:=2) rfl (cH (gn 4 nn.nd) (cH (gn 5 nn.nd) g8)))) (λ_ _ _ _ _=>fw)
    (λ_ _ _ _ _=>(pc G2 (hr.mono (by decide)) (ae (pv 0) (ae (pv 1) (ae (oH hu (eF K (pv 0)) (K6 K (pv 4) aE) (λ_ _=>rfl)) (ae (pv 5) ax))))))) ax))))),?_⟩
  refine ⟨_,rfl,_,rfl,h,s,fl,j,lt,l,rfl,hh,hj,hT,Cq,OI,λH1 lc s1 hC=>?_⟩;obtain ⟨lR,hc,nL⟩:=hC;have hlen:=iK l 0;refine ⟨_,rfl,_,rfl,lt,lc,_,_,rfl, .of (s1 _ _ hl), .of hc,λD hD=>DH (n:=l.length) (λn H'=>aB H1 H'/\H' D=some (.lst ((((kD s j (spansOf 0 l) l).take n).map λx=>pay s af x.2.1 x.1).map V.int))) ⟨aB.new hD,ak⟩ (λm H' hm ⟨sm,_⟩=>?_) (λH' ⟨sm,_⟩=>⟨_,_, .of (sm _ _ (s1 _ _ hl)), .of (sm _ _ hc), .inl (by rw [ab,gL.1];exact ay _)⟩) ?_ ?_⟩
  ·obtain ⟨p,hp⟩: ∃p,ps[m]?=some p:=⟨_,ao (by rw [gL.1];exact hm)⟩
   obtain ⟨a,ha⟩: ∃a,lR[m]?=some a:=⟨_,ao (by rw [nL.1,hlen];exact hm)⟩
   exact ⟨_,_,_,_, .of (sm _ _ (s1 _ _ hl)), .of (sm _ _ hc),bC hp,bC ha⟩
  ·rintro m H2 v H2' hm ⟨s2,h2⟩ ⟨T,vx,vy,rfl,Kb,rfl,TH,XV⟩;obtain ⟨p,hp,rfl⟩:=b0 (TH _ (.of (s2 _ _ (s1 _ _ hl))));obtain ⟨a,ha,rfl⟩:=b0 (XV _ (.of (s2 _ _ hc)));obtain ⟨x,hx,pW⟩:=gL.get' hp;obtain ⟨c,RK,cat⟩:=nL.get' ha;have s3:aB H2 (upd H2 T (.tup [.ref p, .ref a])):=aB.new Kb;have wz:=(s1.trans s2).trans s3;have VL:=yy (s:=s) (j:=j) RK hx;obtain ⟨fa,e1,rT,fm⟩:=fd.get hh.ok hall (aI hx);refine ⟨T,_,rfl, .of ak,rfl,_,_,rfl,_,_,rfl,rfl,rfl,?_⟩;refine ⟨_,rfl,_,rfl,_,rfl,aH (hh.hZ.mono wz) ⟨_,rfl,p,_,1,_,rfl,rfl, .of (wz _ _ pW),at_of (j:=1) rfl rfl,h.f,_,rfl, .inl ⟨kvs,az x.2.1, .inl (wz _ _ hf),rfl,e1.symm⟩,_,rfl,h,s,fl,af,fa,a,_,j,c.1,c.2,_,rfl,hh.mono wz,hk,rT.mono wz,fm,cat.mono (s2.trans s3),_,s3 _ _ h2,?_,aB.put (s2.trans s3) hD,?_⟩⟩
   ·rw [ab,ab,bc];have:sizeLine=16777216:=adY;omega
   ·rw [ak,dQ VL,aO,aO];rfl
  ·rintro H2 ⟨s2,h2⟩;rw [cp (by rw [Ac hlen];exact ay _)] at h2;exact ⟨D,_,rfl, .of h2,q H2 (s1.trans s2)⟩
def uS:bh ["house","kind","row","threes","wrong"] ["house","kind","row"] (aS (top 82)):=fE
def Hx {s:ag} {j:ai} {af:Int} {l:List gP} (h:codeOf s j af l=0):risesTo j.segs.length 0 l=true/\(l.all λx=>(fareOf s x.2.1).isSome)=true:=by
 unfold codeOf at h;by_cases c1:risesTo j.segs.length 0 l=false
 ·rw [if_pos c1] at h;cases h
 ·rw [if_neg c1] at h;by_cases c2:(l.all λx=>(fareOf s x.2.1).isSome)=false
  ·rw [if_pos c2] at h;cases h
  ·exact ⟨lP _▸c1,lP _▸c2⟩
def KN (D:Dn K mg "check_threes" (top 82) ["house","kind","row"]) (c:Cs mg) (G1:Fn P w K mg base "split_threes" 1 ["row"] EB) (G2:Fn P w K mg base "find_wrong" 7 ["house","kind","threes"] (Et K)) (G3:Fn P w K mg base "total_of" 5 ["house","kind","threes"] (Ex K)):
  Fn P w K mg base "check_threes" 8 ["house","kind","row"] (EJ K):=by
 refine D.fn λf fd F=>F.ok uS (λvs H Q E h=>?_) (λdD A outer s H vs Q E hr h=>?_)
 ·obtain ⟨_,_,_,_,_,_,_,rfl,_⟩:=h;rfl
 ·obtain ⟨h,s,fl,j,af,lw,rw,rfl,hh,hj,hk,hw,h24,h3,h0,q⟩:=h;have VW:(threes rw).length<=20:=by rw [lW];omega
  rw [D7 (hh.ok.jo j hj).le] at q;refine ⟨_,(am (st 3 uS.nd (pc G1 (hr.mono (by decide)) (ae (pv 2) ax)))
   (am (st 4 uS.nd (pc G2 (hr.mono (by decide)) (ae (pv 0) (ae (pv 1) (ae (pv 3) ax)))))
   (am (cF (cD va (pv 4) (kG c.kN) (bR _))
    (aA (aY (bK (ae (pv 4) (ae aE ax)))))
    bI)
   (aA (aY (bK (ae (kG c.kN) (ae (pc G3 (hr.mono (by decide)) (ae (pv 0) (ae (pv 1) (ae (pv 3) ax)))) ax)))))))),?_⟩
  refine ⟨_,rfl,lw,rw,rfl,hw,by omega,h3,λH1 lt s1 PN hT=>?_⟩;refine ⟨_,rfl,_,rfl,_,rfl,h,s,fl,j,af,lt,_,rfl,hh.mono s1,hj,hk,hT,VW,h0,λH2 s2=>?_⟩;have io:=s1.trans s2;refine ⟨_,rfl,rfl,_,rfl,?_⟩;by_cases e:codeOf s j af (threes rw)=0
  ·refine Rw e ?_;obtain ⟨g1,g2⟩:=Hx e;rw [e,if_pos rfl] at q;exact ⟨_,rfl,_,rfl,_,rfl,h,s,fl,j,af,lt,_,rfl,hh.mono io,hj,hk,hT.mono s2,VW,h0,g1,g2,λH3 s3=>⟨(by show 2<=sizeLine;decide),λl nl=>q _ l ((io.trans s3).trans (aB.new nl)) ak⟩⟩
  ·refine neT e ?_;rw [if_neg e] at q;exact ⟨_,rfl,(by show 2<=sizeLine;decide),λl nl=>q _ l (io.trans (aB.new nl)) ak⟩
def Gd:bh ["house","numbers","row"] ["house","numbers","row"] (aS (top 114)):=fE
def Hf (D:Dn K mg "tell_check" (top 114) ["house","numbers","row"]) (G:Fn P w K mg base "check_threes" 8 ["house","kind","row"] (EJ K)):Fn P w K mg base "tell_check" 9 ["house","numbers","row"] (gb K za DS):=by
 refine D.fn λf fd F=>F.ok Gd (λvs H Q E h=>?_) (λdD A outer s H vs Q E hr h=>?_)
 ·obtain ⟨_,_,_,_,_,_,_,_,rfl,_⟩:=h;rfl
 ·obtain ⟨h,s,fl,j,ln,lw,ns,rw,rfl,hh,hj,hn,hw,⟨af,rfl,hk,h24,h3,h0⟩,q⟩:=h;refine ⟨_,(aA (aY (bX pP (bK (ae aE ax)) (pc G (hr.mono (by decide)) (ae (pv 0) (ae (bi aZ (pv 1) aE (λ_ _=>rfl)) (ae (pv 2) ax))))))),?_⟩;refine ⟨(by show 1<=sizeLine;decide),λl0 n0=>?_⟩;have s1:aB H (upd H l0 (.lst [.int 0])):=aB.new n0;refine ⟨_,rfl,_,rfl,ln,_,0,_,rfl,rfl, .of (s1 _ _ hn),at_of (j:=0) rfl rfl,_,rfl,h,s,fl,j,af,lw,rw,rfl,hh.mono s1,hj,hk,s1 _ _ hw,h24,h3,h0,λH2 l s2 hl=>?_⟩;exact ⟨l0,l,_,_,rfl,rfl,s2 _ _ ak,hl,(by show 1+2<=sizeLine;decide),λlz nz=>q _ lz ((s1.trans s2).trans (aB.new nz)) ((s1.trans s2).free nz) ak⟩
end
end Lf
namespace Lf
open Vbahaf (Call step inRange fareNumbers withFare fareOf)
def zb:List Str:= ["key","carrier","near","far","way","amount","classes","weekdays","days_ahead","least_stay","most_stay","group","open_ends","kinds","most_segments","numbers","origin","target","day","booking","now","segments"]
def Zg (K:aa) (H:Hp) (hp:List Addr) (oj:Option ai) (jv:V):Prop:=match oj with
 |none=>jv= .fY
 |some j=> ∃ja,jv= .ref ja/\mw K H hp ja j
structure wF (H:Hp) (hp c:Addr):Prop where
 ins: ∀C dx fs,H c=some (.ins C dx fs)->∀f∈zb,fs.lookup f=none
 lst: ∀xs:List V,H c=some (.lst xs)->c=hp/\xs.length=5
section
variable {K:aa} {H H':Hp} {hp c z:Addr}
def wF.fld (o:wF H hp c) (b:dH c H H') {a:Addr} {f:Str} {v:V} (x:gM K H a f v) (hf:f∈zb:=by decide+kernel):gM K H' a f v:=by
 obtain ⟨C,dx,fs,h1,h2,h3,h4⟩:=x;refine ⟨C,dx,fs,b _ _ (λe=>?_) h1,h2,h3,h4⟩;rw [e] at h1;rw [o.ins _ _ _ h1 f hf] at h4;cases h4
def wF.fare (o:wF H hp c) (b:dH c H H') {a:Addr} {f:aq} (x:dB K H a f):dB K H' a f:=
 ⟨o.fld b x.key,o.fld b x.carrier,o.fld b x.near,o.fld b x.RO,o.fld b x.way,o.fld b x.amount,o.fld b x.classes,o.fld b x.weekdays,o.fld b x.mo,o.fld b x.mi,o.fld b x.oO,o.fld b x.group,o.fld b x.oK,o.fld b x.kinds,o.fld b x.iS⟩
def wF.GD (o:wF H hp c) (b:dH c H H') {a:Addr} {f:aq} (x:wc K H z f a):wc K H' z f a:=by
 obtain ⟨l,h0,h1,h2⟩:=x;refine ⟨l,h0,o.fld b h1,b _ _ (λe=>?_) h2⟩;rw [e] at h2;have:=(o.lst _ h2).2;rw [ab] at this;exact absurd this (by show¬15=5;decide)
def wF.seg (o:wF H hp c) (b:dH c H H') {a:Addr} {g:bT} (x:jn K H a g):jn K H' a g:=
 ⟨o.fld b x.carrier,o.fld b x.origin,o.fld b x.target,o.fld b x.day,o.fld b x.ub⟩
def wF.Ow (o:wF H hp c) (b:dH c H H') {l:Addr} {xs:List V} (h:H l=some (.lst xs)) (n:l≠hp):H' l=some (.lst xs):=
 b _ _ (λe=>n (by rw [e] at h⊢;exact (o.lst _ h).1)) h
def wF.XG (o:wF H hp c) (b:dH c H H') {a:Addr} {j:ai} (x:mw K H [hp,z] a j):mw K H' [hp,z] a j:=by
 obtain ⟨h1,l,as,n,h2,h3,h4,h5⟩:=x;refine ⟨o.fld b h1,l,as,n,o.fld b h2,o.Ow b h3 (λe=>n (by rw [e];exact aM)),h4.mono λ_ _ z=>o.seg b z,h5.mono λ_ _ z=>?_⟩;obtain ⟨l',n',z1,z2⟩:=z;exact ⟨l',n',o.fld b z1,o.Ow b z2 (λe=>n' (by rw [e];exact aM))⟩
def wF.jm (o:wF H hp c) (b:dH c H H') {oj:Option ai} {jv:V} (m:Zg K H [hp,z] oj jv):Zg K H' [hp,z] oj jv:=by
 cases oj with
 |none=>exact m
 |some j=>
  obtain ⟨ja,e,z⟩:=m;exact ⟨ja,e,o.XG b z⟩
end
def Jz {H:Hp} {hp c:Addr} {kvs:List (Key×V)} (h:H c=some (.dK kvs)):wF H hp c:=⟨λ_ _ _ z=>(by rw [h] at z;cases z),λ_ z=>(by rw [h] at z;cases z)⟩
def Jy {H:Hp} {hp c:Addr} {kvs:List (List Key×V)} (h:H c=some (.dT kvs)):wF H hp c:=⟨λ_ _ _ z=>(by rw [h] at z;cases z),λ_ z=>(by rw [h] at z;cases z)⟩
def J2 (h:HA) (u:Int) (jv:V): ∀f∈zb,(LJ h u jv).lookup f=none:=by
 intro f hf;have key: ∀f∈zb,f≠"fares"/\f≠"together"/\f≠"floors"/\f≠"taxes"/\f≠"percents"/\f≠"unit"/\f≠"journey" :=by decide+kernel
 obtain ⟨a,b,c,d,e,g,i⟩:=key f hf;unfold LJ;simp [fW,a,b,c,d,e,g,i,beq_eq_false_iff_ne.mpr]
def SY {K:aa} {H:Hp} {h:HA} {s:ag} {fl:List aq} (x:ba K H h s fl):wF H h.p h.a:=by
 obtain ⟨jv,i1,_⟩:=x.inst;refine ⟨λ_ _ _ z=>?_,λ_ z=>by rw [i1] at z;cases z⟩;rw [i1] at z;cases z;exact J2 h s.unit jv
def SX {K:aa} {H:Hp} {h:HA} {s:ag} {fl:List aq} (x:ba K H h s fl):wF H h.p h.p:=by
 refine ⟨λ_ _ _ z=>(by rw [x.percents] at z;cases z),λxs z=>⟨rfl,?_⟩⟩;rw [x.percents] at z;cases z;rw [ab];exact x.ok.pl
def jy (zs:List (aq×Addr)):List (Key×V):=zs.map λy=>(az y.1.key,V.ref y.2)
def Ij {α β:Type}: ∀(zs:List (α×β)),(zs.map (·.1)).zip (zs.map (·.2))=zs
 | []=>rfl
 |z::zs=>by
  exact congrArg (λl=>z::l) (Ij zs)
def P5 (zs:List (aq×Addr)):GO (zs.map (·.1)) (zs.map (·.2))=jy zs:=by
 unfold GO jy;rw [Ij]
def FF {α β:Type} {R:α->β->Prop} {zs:List (α×β)} (h: ∀y∈zs,R y.1 y.2):bQ R (zs.map (·.1)) (zs.map (·.2)):=by
 refine ⟨by simp,λi a b ha hb=>?_⟩;rw [br] at ha hb;cases e:zs[i]? with
 |none=>rw [e] at ha;cases ha
 |some y=>
  rw [e] at ha hb;cases ha;cases hb;exact h y (aI e)
def ba.zs {K:aa} {H:Hp} {h:HA} {s:ag} {fl:List aq} (x:ba K H h s fl): ∃zs:List (aq×Addr),zs.map (·.1)=fl/\H h.f=some (.dK (jy zs))/\∀y∈zs,dB K H y.2 y.1/\wc K H h.z y.1 y.2:=by
 obtain ⟨gO,h1,h2,h3⟩:=x.fares;have hl:fl.length=gO.length:=h2.1;refine ⟨fl.zip gO,by rw [uh];omega,?_,λy hy=>?_⟩
 ·rw [h1];rfl
 ·obtain ⟨i,hi⟩:=dL.mp hy;obtain ⟨e1,e2⟩:=cf.mp hi;exact ⟨h2.2 i _ _ e1 e2,h3.2 i _ _ e1 e2⟩
def Frame (h:HA) (H H':Hp):Prop:= ∀b o,b∉h.foot->H b=some o->H' b=some o
def kj {h:HA} {H H':Hp} (s:aB H H'):Frame h H H':=λb o _ e=>s b o e
def Frame.trans {h:HA} {H H1 H2:Hp} (a:Frame h H H1) (b:Frame h H1 H2):Frame h H H2:=λc o hc e=>b c o hc (a c o hc e)
def dH.frame {h:HA} {c:Addr} {H H':Hp} (s:dH c H H') (hc:c∈h.foot):Frame h H H':=λb o hb e=>s b o (λz=>hb (by rw [z];exact hc)) e
def ba.Aw {K:aa} {H:Hp} {h:HA} {s:ag} {fl:List aq} (x:ba K H h s fl) {zs:List (aq×Addr)} {fs:List aq} (hp:(zs.map (·.1)).Perm fs) (ok:kM {s with fares:=fs}) (hz: ∀y∈zs,dB K H y.2 y.1/\wc K H h.z y.1 y.2):
  ba K (upd H h.f (.dK (jy zs))) h {s with fares:=fs} (zs.map (·.1)):=by
 obtain ⟨zs0,_,hf,_⟩:=x.zs;have o:wF H h.p h.f:=Jz hf;have b:dH h.f H (upd H h.f (.dK (jy zs))):=dH.upd;obtain ⟨S4,hc,perm,⟨jv,i1,i2⟩,_,⟨kt,t1,t2⟩,⟨ko,o1,o2⟩,⟨kx,x1,x2⟩,p,n1,n2⟩:=x;refine ⟨ok,hc,hp,⟨jv,bp i1 (cg i1 hf λz=>nomatch z),o.jm (z:=h.z) (jv:=jv) b i2⟩,⟨zs.map (·.2),?_,FF (zs:=zs) (R:=λf a=>dB K _ a f) λy hy=>o.fare b (hz y hy).1,FF (zs:=zs) λy hy=>o.GD b (hz y hy).2⟩,⟨kt,bp t1 (cg t1 hf λz=>nomatch z),t2⟩,⟨ko,bp o1 (cg o1 hf λz=>nomatch z),o2⟩,⟨kx,bp x1 n1.symm,x2⟩,bp p (cg p hf λz=>nomatch z),n1,n2⟩;rw [ak,P5]
def ba.Gb {K:aa} {H:Hp} {h:HA} {s:ag} {fl:List aq} (x:ba K H h s fl) {kvs:List (List Key×V)} {cs:List (Int×Int)} (ok:kM {s with combos:=cs}) (h1:(kvs.map (·.1)).Nodup) (h2: ∀k∈kvs.map (·.1), ∃g g':Int,k= [az g,az g']/\0<=g/\g<=7/\0<=g'/\g'<=7)
  (h3: ∀g g':Int,(cx kvs [az g,az g']).getD (.bl false)= .bl (cs.contains (g,g'))):ba K (upd H h.t (.dT kvs)) h {s with combos:=cs} fl:=by
 obtain ⟨ZJ,hf,_⟩:=x.groups;have o:wF H h.p h.t:=Jy hf;have b:dH h.t H (upd H h.t (.dT kvs)):=dH.upd;obtain ⟨S4,hc,perm,⟨jv,i1,i2⟩,⟨gO,f1,f2,f3⟩,⟨kt,t1,t2⟩,⟨ko,o1,o2⟩,⟨kx,x1,x2⟩,p,n1,n2⟩:=x;exact ⟨ok,hc,perm,⟨jv,bp i1 (cg i1 hf λz=>nomatch z),o.jm (z:=h.z) (jv:=jv) b i2⟩,⟨gO,bp f1 (cg f1 hf λz=>nomatch z),f2.mono λ_ _ z=>o.fare b z,f3.mono λ_ _ z=>o.GD b z⟩,⟨kvs,ak,h1,h2,h3⟩,⟨ko,bp o1 n2.symm,o2⟩,⟨kx,bp x1 (cg x1 hf λz=>nomatch z),x2⟩,bp p (cg p hf λz=>nomatch z),n1,n2⟩
def ba.Av {K:aa} {H:Hp} {h:HA} {s:ag} {fl:List aq} (x:ba K H h s fl) {ps:List Int} (ok:kM {s with percents:=ps}):ba K (upd H h.p (.lst (ps.map V.int))) h {s with percents:=ps} fl:=by
 have o:=SX x;have hf:=x.percents;have b:dH h.p H (upd H h.p (.lst (ps.map V.int))):=dH.upd;obtain ⟨S4,hc,perm,⟨jv,i1,i2⟩,⟨gO,f1,f2,f3⟩,⟨kt,t1,t2⟩,⟨ko,o1,o2⟩,⟨kx,x1,x2⟩,p,n1,n2⟩:=x;exact ⟨ok,hc,perm,⟨jv,bp i1 (cg i1 hf λz=>nomatch z),o.jm (z:=h.z) (jv:=jv) b i2⟩,⟨gO,bp f1 (cg f1 hf λz=>nomatch z),f2.mono λ_ _ z=>o.fare b z,f3.mono λ_ _ z=>o.GD b z⟩,⟨kt,bp t1 (cg t1 hf λz=>nomatch z),t2⟩,⟨ko,bp o1 (cg o1 hf λz=>nomatch z),o2⟩,⟨kx,bp x1 (cg x1 hf λz=>nomatch z),x2⟩,ak,n1,n2⟩
def ba.EL {K:aa} {H:Hp} {h:HA} {s:ag} {fl:List aq} (x:ba K H h s fl) {u:Int} {jv:V} {oj:Option ai} (ok:kM {s with unit:=u,journey:=oj}) (hj:Zg K H h.bn oj jv):ba K (upd H h.a (.ins h.C h.dx (LJ h u jv))) h {s with unit:=u,journey:=oj} fl:=by
 have o:=SY x;have b:dH h.a H (upd H h.a (.ins h.C h.dx (LJ h u jv))):=dH.upd;obtain ⟨S4,hc,perm,⟨jv0,hf,i2⟩,⟨gO,f1,f2,f3⟩,⟨kt,t1,t2⟩,⟨ko,o1,o2⟩,⟨kx,x1,x2⟩,p,n1,n2⟩:=x;exact ⟨ok,hc,perm,⟨jv,ak,o.jm (z:=h.z) (jv:=jv) b hj⟩,⟨gO,bp f1 (cg f1 hf λz=>nomatch z),f2.mono λ_ _ z=>o.fare b z,f3.mono λ_ _ z=>o.GD b z⟩,⟨kt,bp t1 (cg t1 hf λz=>nomatch z),t2⟩,⟨ko,bp o1 (cg o1 hf λz=>nomatch z),o2⟩,⟨kx,bp x1 (cg x1 hf λz=>nomatch z),x2⟩,bp p (cg p hf λz=>nomatch z),n1,n2⟩
def d7 (K:aa) (ok:List Int->List Int->Call->Prop):Sp:=λvs H Q _=> ∃(h:HA) (s:ag) (fl:List aq) (ln lw:Addr) (ns rw:List Int) (c:Call),vs= [.ref h.a, .ref ln, .ref lw]/\ba K H h s fl/\H ln=some (.lst (ns.map V.int))/\H lw=some (.lst (rw.map V.int))/\ok ns rw c/\inRange c=true/\(ln≠h.z/\∃o,H h.z=some o)/\
 ∀(H':Hp) (l:Addr) (xg:List aq),Frame h H H'->H l=none->H' l=some (.lst ((step s c).2.map V.int))->ba K H' h (step s c).1 xg->Q (.ref l) H'
end Lf
namespace Lf
open Vbahaf (Call step inRange fareNumbers withFare fareOf FARES)
def Dm (ns rw:List Int) (c:Call):Prop:= ∃f,c= .fare f/\ns=fareNumbers f
def vd (ns rw:List Int) (c:Call):Prop:= ∃k,c= .unfare k/\ns= [k]
def AJ {f:aq}: ∀{fl:List aq},(fl.map λg=>g.key).Nodup->(∃g∈fl,g.key=f.key)->(fl.map λg=>if g.key=f.key then f else g).Perm (f::fl.filter λg=>decide (g.key≠f.key))
 | [],_,h=>by obtain ⟨_,h,_⟩:=h;cases h
 |a::fl,nd,h=>by
  have nd:(a.key::fl.map λg=>g.key).Nodup:=nd;obtain ⟨n1,n2⟩:=bo.mp nd;by_cases e:a.key=f.key
  ·have Ua: ∀g∈fl,g.key≠f.key:=λg hg z=>n1 (by rw [e, <-z];exact aj.mpr ⟨g,hg,rfl⟩);rw [be,if_pos e,Cm (by simpa using e),j2.mpr (λg hg=>by simpa using Ua g hg)];refine mZ _ (jb ?_);refine (bP λg hg=>if_neg (Ua g hg)).trans ?_;simp
  ·obtain ⟨g,hg,eg⟩:=h;have hg:g∈fl:=by
    rcases aD.mp hg with rfl|hg
    ·exact absurd eg e
    ·exact hg
   rw [be,if_neg e,Ck (by simpa using e)];exact ((AJ n2 ⟨g,hg,eg⟩).cons a).trans (tP _ _ _)
def keys_nodup {K:aa} {H:Hp} {h:HA} {s:ag} {fl:List aq} (x:ba K H h s fl):(fl.map λf=>f.key).Nodup:=(x.perm.map _).nodup_iff.mpr (by
 have:=x.ok.fs;rw [WI,dE];exact this.imp λ{a b} h=>by omega)
def GM (zs:List (aq×Addr)) (f:aq) (x:Addr):jy zs++ [(az f.key, .ref x)]=jy (zs++ [(f,x)]):=by unfold jy;rw [aO];rfl
def JK (zs:List (aq×Addr)) (f:aq) (x:Addr) (h:(cx (jy zs) (az f.key)).isSome=true):putK (jy zs) (az f.key) (.ref x)=jy (zs.map λy=>if y.1.key=f.key then (f,x) else y):=by
 unfold putK;rw [if_pos (by rw [fT];exact h)];unfold jy;rw [bm,bm];refine bP λy _=>?_;show (if (az y.1.key:Key)=az f.key then ((az y.1.key:Key),V.ref x) else (az y.1.key,V.ref y.2))=_;by_cases e:y.1.key=f.key
 ·rw [if_pos (by rw [e])];show _=(az (if y.1.key=f.key then (f,x) else y).1.key,V.ref (if y.1.key=f.key then (f,x) else y).2)
  rw [if_pos e,e]
 ·rw [if_neg (λz=>e (cY z))];show _=(az (if y.1.key=f.key then (f,x) else y).1.key,V.ref (if y.1.key=f.key then (f,x) else y).2)
  rw [if_neg e]
def GN (zs:List (aq×Addr)) (k:Int):gX (jy zs) (az k)=jy (zs.filter λy=>decide (y.1.key≠k)):=by
 unfold gX jy;rw [ik]
 congr 1
 refine iH λy _=>?_;show decide ((az y.1.key:Key)≠az k)=decide (y.1.key≠k);rw [decide_eq_decide];exact ⟨λz e=>z (by rw [e]),λz e=>z (cY e)⟩
section
variable {P:adT} {w:adQ} {K:aa} {mg:Str->Option Value} {base:adO} {t:CA}
def RY {H:Hp} {s:ag} {kvs:List (Key×V)} (fd:zQ K H s kvs) (k:Int):(cx kvs (az k)).isSome=(fareOf s k).isSome:=by
 cases e:fareOf s k with
 |none=>rw [fd.none_ k e];rfl
 |some f=>
  obtain ⟨fa,e1,_⟩:=fd.xD k f e;rw [e1];rfl
def AB:bh ["house","numbers","row","fare"] ["house","numbers","row"] (aS (top 18)):=fE
def KA (D:Dn K mg "put_fare" (top 18) ["house","numbers","row"]) (b:Bl mg) (c:Cs mg) (G:Cl P w K mg base "Fare" t.Fare 1 ["self","numbers"] (IN K t.Fare)):Fn P w K mg base "put_fare" 3 ["house","numbers","row"] (d7 K Dm):=by
 refine D.fn λf fd F=>F.ok AB (λvs H Q E h=>?_) (λdD A outer s H vs Q E hr h=>?_)
 ·obtain ⟨_,_,_,_,_,_,_,_,rfl,_⟩:=h;rfl
 ·obtain ⟨h,s,fl,ln,lw,ns,rw,cl,rfl,hh,hn,hw,⟨f,rfl,rfl⟩,g9,pV,q⟩:=h;have hu:=jP hr;have ve:=kb hh.ok g9;refine ⟨_,(am (st 3 AB.nd (Ly G (hr.mono (by decide)) (ae (pv 1) ax)))
   (am (cF (cD gg (aT (pv 3) rfl) (aT (pv 3) rfl) (bR _))
    (aA (aY (bK (ae (kG c.sj) ax))))
    bI)
   (am (cF (pM (gc (oI hu (aT (pv 3) rfl) (aT (pv 0) rfl))) (l5 (cD E4 (K5 b.len (aT (pv 0) rfl)) (kG c.Ei) (bR _)))).pt
    (aA (aY (bK (ae (kG c.Rg) ax))))
    bI)
   (am (l6 hu (aT (pv 0) rfl) (aT (pv 3) rfl) (pv 3) rfl)
   (aA (aY (bK (ae aE ax)))))))),?_⟩
  refine ⟨_,rfl,λx dx nx tj PP=>⟨x,dx,ln,f,rfl,ak,dY nx tj _ _ hn,λH1 b1 rT QE=>⟨rfl,?_⟩⟩⟩;have s1:aB H H1:=dH.same (dY nx tj) nx b1;have fH:=hh.mono s1;have sH:=s1 _ _ hn;refine ⟨_,rfl,aH rT.near ⟨_,rfl,aH rT.RO ⟨rfl,_,rfl,?_⟩⟩⟩;by_cases e1:f.src=f.dst
  ·refine eqT e1 ?_;have es:step s (.fare f)=(s,[-6]):=if_pos e1;rw [es] at q;exact ⟨(by show 1<=sizeLine;decide),λl nl=>q _ l fl (kj (s1.trans (aB.new nl))) (s1.free nl) ak (fH.mono (aB.new nl))⟩
  ·refine LO e1 ?_;obtain ⟨zs,ez,hf,hz⟩:=fH.zs;obtain ⟨kvs,Ut,fd⟩:=fH.vN;have ek:kvs=jy zs:=by rw [hf] at Ut;cases Ut;rfl
   subst ek;have M9:=RY fd f.key;refine ⟨_,rfl,aH rT.key ⟨_,rfl,aH fH.hZ ⟨h.f,_,rfl,j7.k (k:=az f.key) hf,_,rfl,?_⟩⟩⟩;have put: ¬((fareOf s f.key).isNone=true/\FARES<=s.fares.length)->∀l,(upd H1 h.f (.dK (putK (jy zs) (az f.key) (.ref x)))) l=none->Q (.ref l) (upd (upd H1 h.f (.dK (putK (jy zs) (az f.key) (.ref x)))) l (.lst [.int 0])):=λgp l nl=>by
    have es:step s (.fare f)=({s with fares:=withFare s.fares f},[0]):=by
     show (if f.src=f.dst then _ else if (fareOf s f.key).isNone=true/\FARES<=s.fares.length then _ else _)=_;rw [if_neg e1,if_neg gp]
    rw [es] at q ve;have hx:dB K H1 x f/\wc K H1 h.z f x:=⟨rT,ln,pV.1,QE,sH⟩
    have key: ∃RW:List (aq×Addr),putK (jy zs) (az f.key) (.ref x)=jy RW/\(RW.map (·.1)).Perm (withFare s.fares f)/\∀y∈RW,dB K H1 y.2 y.1/\wc K H1 h.z y.1 y.2:=by
     cases e2:fareOf s f.key with
     |none=>
      refine ⟨zs++ [(f,x)],?_,?_,λy hy=>?_⟩
      ·rw [qA _ (fd.none_ _ e2),GM]
      ·rw [aO,ez];refine i9 ?_ (kE s.fares f).symm;rw [j2.mpr (λg hg=>by simpa using sI.mp e2 g hg)];exact (oY).trans (hh.perm.cons f)
      ·rcases bG.mp hy with hy|hy
       ·exact hz y hy
       ·rw [aP.mp hy];exact hx
     |some g=>
      obtain ⟨gm,ge⟩:=(i3 hh.ok).mp e2;refine ⟨zs.map λy=>if y.1.key=f.key then (f,x) else y,?_,?_,λy hy=>?_⟩
      ·exact JK zs f x (by rw [M9,e2];rfl)
      ·rw [bm];have e3:zs.map ((·.1)∘λy=>if y.1.key=f.key then (f,x) else y)=fl.map λg=>if g.key=f.key then f else g:=by
        rw [<-ez,bm];refine bP λy _=>?_;show (if y.1.key=f.key then (f,x) else y).1=if y.1.key=f.key then f else y.1
        by_cases z:y.1.key=f.key
        ·rw [if_pos z,if_pos z]
        ·rw [if_neg z,if_neg z]
       rw [e3];refine (AJ (keys_nodup hh) ⟨g,hh.perm.mem_iff.mpr gm,ge⟩).trans (i9 ?_ (kE s.fares f).symm);exact (hh.perm.filter _).cons f
      ·obtain ⟨y0,hy0,rfl⟩:=aj.mp hy;by_cases z:y0.1.key=f.key
       ·rw [if_pos z];exact hx
       ·rw [if_neg z];exact hz y0 hy0
    obtain ⟨RW,k1,k2,k3⟩:=key;rw [k1] at nl⊢;have H2:=fH.Aw k2 ve k3;have fr:Frame h H1 (upd H1 h.f (.dK (jy RW))):=dH.frame dH.upd (by unfold HA.foot;simp);have rj:H1 l=none:=by
     by_cases e:l=h.f
     ·rw [e,ak] at nl;cases nl
     ·rw [bL e] at nl;exact nl
    exact q _ l _ (((kj s1).trans fr).trans (kj (aB.new nl))) (s1.free rj) ak (H2.mono (aB.new nl))
   have hlen:(jy zs).length<sizeLine:=by
    rw [fd.len];have:=hh.ok.fl;have:sizeLine=16777216:=adY;omega
   rw [M9];cases e2:fareOf s f.key with
   |some g=>
    refine tq ?_;refine ⟨_,rfl,_,rfl,aH fH.hZ ⟨_,rfl,aH rT.key ⟨h.f,_,rfl,oq.k (k:=az f.key) hf hlen,?_⟩⟩⟩;exact ⟨(by show 1<=sizeLine;decide),λl nl=>put (λz=>by rw [e2] at z;exact absurd z.1 (by simp)) l nl⟩
   |none=>
    refine o0 ?_;refine ⟨_,rfl,aH fH.hZ ⟨h.f,_,rfl,hf,_,_,rfl,rfl,_,rfl,?_⟩⟩;by_cases e3:FARES<=s.fares.length
    ·refine dT (by rw [fd.len];have:FARES=60:=rfl;omega) ?_;have es:step s (.fare f)=(s,[-8]):=by
      show (if f.src=f.dst then _ else if (fareOf s f.key).isNone=true/\FARES<=s.fares.length then _ else _)=_;rw [if_neg e1,if_pos ⟨by rw [e2];rfl,e3⟩]
     rw [es] at q;exact ⟨(by show 1<=sizeLine;decide),λl nl=>q _ l fl (kj (s1.trans (aB.new nl))) (s1.free nl) ak (fH.mono (aB.new nl))⟩
    ·refine dF (by rw [fd.len];have:FARES=60:=rfl;omega) ?_;refine ⟨_,rfl,_,rfl,aH fH.hZ ⟨_,rfl,aH rT.key ⟨h.f,_,rfl,oq.k (k:=az f.key) hf hlen,?_⟩⟩⟩;exact ⟨(by show 1<=sizeLine;decide),λl nl=>put (λz=>e3 z.2) l nl⟩
def Az:bh ["house","numbers","row","key"] ["house","numbers","row"] (aS (top 19)):=fE
def Kp (D:Dn K mg "take_fare" (top 19) ["house","numbers","row"]) (c:Cs mg):Fn P w K mg base "take_fare" 1 ["house","numbers","row"] (d7 K vd):=by
 refine D.fn λf fd F=>F.ok Az (λvs H Q E h=>?_) (λdD A outer s H vs Q E hr h=>?_)
 ·obtain ⟨_,_,_,_,_,_,_,_,rfl,_⟩:=h;rfl
 ·obtain ⟨h,s,fl,ln,lw,ns,rw,cl,rfl,hh,hn,hw,⟨k,rfl,rfl⟩,g9,pV,q⟩:=h;have hu:=jP hr;have ve:=kb hh.ok g9;obtain ⟨zs,ez,hf,hz⟩:=hh.zs;obtain ⟨kvs,Ut,fd⟩:=hh.vN;have ek:kvs=jy zs:=by rw [hf] at Ut;cases Ut;rfl
  subst ek;have M9:=RY fd k;refine ⟨_,(am (st 3 Az.nd (bi aZ (pv 1) aE (λ_ _=>rfl)))
   (am (cF (gc (oI hu (pv 3) (aT (pv 0) rfl)))
    (aA (aY (bK (ae (kG c.N2) ax))))
    bI)
   (am (eO (Jv (aT (pv 0) rfl) (pv 3) ⟨rfl,rfl,rfl,rfl⟩))
   (aA (aY (bK (ae aE ax))))))),?_⟩
  refine ⟨_,rfl,ln,_,0,_,rfl,rfl, .of hn,at_of (j:=0) rfl rfl,?_⟩;refine ⟨_,rfl,_,rfl,aH hh.hZ ⟨h.f,_,rfl,j7.k (k:=az k) hf,_,rfl,?_⟩⟩;rw [M9];cases e2:fareOf s k with
  |none=>
   refine o0 ?_;have es:step s (.unfare k)=(s,[-5]):=if_pos (by rw [e2];rfl);rw [es] at q;exact ⟨(by show 1<=sizeLine;decide),λl nl=>q _ l fl (kj (aB.new nl)) nl ak (hh.mono (aB.new nl))⟩
  |some g=>
   refine tq ?_;obtain ⟨fa,e3,_⟩:=fd.xD k g e2;refine ⟨_,rfl,aH hh.hZ ⟨h.f,rfl, .inl ⟨_, .inl hf⟩,_,rfl,_,az k,_,hf,rfl,e3,?_⟩⟩;have es:step s (.unfare k)=({s with fares:=s.fares.filter λf=>decide (f.key≠k)},[0]):=if_neg (by rw [e2];simp);rw [es] at q ve;rw [GN];have H2:=hh.Aw (zs:=zs.filter λy=>decide (y.1.key≠k)) (fs:=s.fares.filter λf=>decide (f.key≠k)) (by
    have e4:(zs.filter λy=>decide (y.1.key≠k)).map (·.1)=fl.filter λf=>decide (f.key≠k):=by
     rw [<-ez,ik];rfl
    rw [e4];exact hh.perm.filter _) ve (λy hy=>hz y (au.mp hy).1)
   have fr:Frame h H (upd H h.f (.dK (jy (zs.filter λy=>decide (y.1.key≠k))))):=dH.frame dH.upd (by unfold HA.foot;simp);refine ⟨(by show 1<=sizeLine;decide),λl nl=>?_⟩;have rj:H l=none:=by
    by_cases e:l=h.f
    ·rw [e,ak] at nl;cases nl
    ·rw [bL e] at nl;exact nl
   exact q _ l _ (fr.trans (kj (aB.new nl))) rj ak (H2.mono (aB.new nl))
end
end Lf
namespace Lf
open Vbahaf (Call step inRange GROUPPAIRS GROUPS FLOORS TAXES withFloor withTax isFloor)
def Do (ns rw:List Int) (c:Call):Prop:= ∃g h y,c= .combine g h y/\ns= [g,h,y]
def y9 (ns rw:List Int) (c:Call):Prop:= ∃a b m,c= .floor a b m/\ns= [a,b,m]
def JB (ns rw:List Int) (c:Call):Prop:= ∃a m,c= .tax a m/\ns= [a,m]
def Du {g h:Int}:(g,h)∈GROUPPAIRS↔(0<=g/\g<=7)/\(0<=h/\h<=7):=by
 have key: ∀x:Int,x∈GROUPS↔0<=x/\x<=7:=λx=>by
  unfold GROUPS;simp;omega
 unfold GROUPPAIRS;rw [aW];constructor
 ·rintro ⟨a,ha,hb⟩;obtain ⟨b,hb,e⟩:=aj.mp hb;cases e;exact ⟨(key _).mp ha,(key _).mp hb⟩
 ·rintro ⟨h1,h2⟩;exact ⟨g,(key _).mpr h1,aj.mpr ⟨h,(key _).mpr h2,rfl⟩⟩
def xR {α:Type} [DecidableEq α]: ∀{l m:List α},l.Nodup->(∀a∈l,a∈m)->l.length<=m.length
 | [],_,_,_=>bv _
 |a::l,m,nd,h=>by
  obtain ⟨n1,n2⟩:=bo.mp nd;have ha:=h a aM;have:=xR (l:=l) (m:=m.erase a) n2 λb hb=>(List.mem_erase_of_ne (λe=>n1 (by rw [<-e];exact hb))).mpr (h b (aF _ hb));rw [List.length_erase_of_mem ha] at this;have:0<m.length:=List.length_pos_of_mem ha;rw [aR];omega
section
variable {κ:Type} [DecidableEq κ]
def AQ {kvs:List (κ×V)} {k:κ} {v:V}:((putK kvs k v).map (·.1))=if (cx kvs k).isSome=true then kvs.map (·.1) else kvs.map (·.1)++ [k]:=by
 unfold putK;rw [fT];by_cases h:(cx kvs k).isSome=true
 ·rw [if_pos h,if_pos h,bm];refine bP λx _=>?_;show (if x.1=k then (x.1,v) else x).1=x.1;by_cases e:x.1=k
  ·rw [if_pos e]
  ·rw [if_neg e]
 ·rw [if_neg h,if_neg h,aO];rfl
def qo {kvs:List (κ×V)} {k:κ} (h:cx kvs k=none):k∉kvs.map (·.1):=by
 intro z;obtain ⟨x,hx,e⟩:=aj.mp z;have:=fT k kvs;rw [h] at this;have h2:(kvs.any λkv=>decide (kv.1=k))=true:=gS.mpr ⟨x,hx,by simpa using e⟩;rw [h2] at this;cases this
def Gp {kvs:List (κ×V)} {k:κ} {v:V} (nd:(kvs.map (·.1)).Nodup):((putK kvs k v).map (·.1)).Nodup:=by
 rw [AQ];by_cases h:(cx kvs k).isSome=true
 ·rw [if_pos h];exact nd
 ·rw [if_neg h];have hn:cx kvs k=none:=by simpa using h
  refine gH.mpr ⟨nd,bo.mpr ⟨gQ,eT⟩,λx hx y hy e=>?_⟩;have:=aP.mp hy;subst this e;exact qo hn hx
def rV {kvs:List (κ×V)} {k:κ} (h:cx kvs k=none):gX kvs k=kvs:=by
 unfold gX;exact j2.mpr λx hx=>by
  have:=qo h;simpa using λe=>this (aj.mpr ⟨x,hx,e⟩)
def Jf {k:κ} {v:V}: ∀{kvs:List (κ×V)},(kvs.map (·.1)).Nodup->(∃x∈kvs,x.1=k)->(kvs.map λkv=>if kv.1=k then (kv.1,v) else kv).Perm ((k,v)::kvs.filter λkv=>decide (kv.1≠k))
 | [],_,h=>by obtain ⟨_,h,_⟩:=h;cases h
 |a::kvs,nd,h=>by
  have nd:(a.1::kvs.map (·.1)).Nodup:=nd;obtain ⟨n1,n2⟩:=bo.mp nd;by_cases e:a.1=k
  ·have Ua: ∀g∈kvs,g.1≠k:=λg hg z=>n1 (by rw [e, <-z];exact aj.mpr ⟨g,hg,rfl⟩);rw [be,if_pos e,Cm (by simpa using e),j2.mpr (λg hg=>by simpa using Ua g hg),e];refine mZ _ (jb ?_);refine (bP λg hg=>if_neg (Ua g hg)).trans ?_;simp
  ·obtain ⟨g,hg,eg⟩:=h;have hg:g∈kvs:=by
    rcases aD.mp hg with rfl|hg
    ·exact absurd eg e
    ·exact hg
   rw [be,if_neg e,Ck (by simpa using e)];exact ((Jf n2 ⟨g,hg,eg⟩).cons a).trans (tP _ _ _)
def Jk {kvs:List (κ×V)} {k:κ} {v:V} (nd:(kvs.map (·.1)).Nodup):(putK kvs k v).Perm ((k,v)::gX kvs k):=by
 cases e:cx kvs k with
 |none=>
  rw [qA v e,rV e];exact oY
 |some v0=>
  unfold putK;rw [if_pos (by rw [fT,e];rfl)];exact Jf nd ⟨_,qp e,rfl⟩
def kL (kvs:List (κ×V)) (k:κ) (m:Int):List (κ×V)×Int:=if m=0 then (gX kvs k,0) else if cx kvs k=none/\40<=kvs.length then (kvs, -8) else (putK kvs k (.int m),0)
end
def IP:Sp:=λvs H Q _=>(∃(a:Addr) (kvs:List (Key×V)) (k:Key) (m:Int),vs= [.ref a,kV k, .int m]/\H a=some (.dK kvs)/\kvs.length<=40/\∀(H':Hp) (l:Addr),dH a H H'->H' a=some (.dK (kL kvs k m).1)->H l=none->H' l=some (.lst [.int (kL kvs k m).2])->Q (.ref l) H')∨
 ∃(a b:Addr) (kvs:List (List Key×V)) (k:List Key) (m:Int),vs= [.ref a, .ref b, .int m]/\H a=some (.dT kvs)/\H b=some (.tup (k.map kV))/\kvs.length<=40/\∀(H':Hp) (l:Addr),dH a H H'->H' a=some (.dT (kL kvs k m).1)->H l=none->H' l=some (.lst [.int (kL kvs k m).2])->Q (.ref l) H'
def i0 {H:Hp} {a l:Addr} {o o':HO} (h:H a=some o) (n:upd H a o' l=none):H l=none/\l≠a:=by
 by_cases e:l=a
 ·rw [e,ak] at n;cases n
 ·rw [bL e] at n;exact ⟨n,e⟩
section
variable {P:adT} {w:adQ} {K:aa} {mg:Str->Option Value} {base:adO} {t:CA}
def IT:bh ["house","numbers","row"] ["house","numbers","row"] (aS (top 20)):=fE
def KB (D:Dn K mg "put_combination" (top 20) ["house","numbers","row"]):Fn P w K mg base "put_combination" 1 ["house","numbers","row"] (d7 K Do):=by
 refine D.fn λf fd F=>F.ok IT (λvs H Q E h=>?_) (λdD A outer s H vs Q E hr h=>?_)
 ·obtain ⟨_,_,_,_,_,_,_,_,rfl,_⟩:=h;rfl
 ·obtain ⟨h,s,fl,ln,lw,ns,rw,cl,rfl,hh,hn,hw,⟨g,g',y,rfl,rfl⟩,g9,pV,q⟩:=h;have hu:=jP hr;have ve:=kb hh.ok g9;obtain ⟨kvs,ht,nd,hk,hv⟩:=hh.groups;have DN:((0<=g/\g<=7)/\(0<=g'/\g'<=7))/\(0<=y/\y<=1):=by
   have:(cC 0 7 g&&cC 0 7 g'&&cC 0 1 y)=true:=g9;simp only [aU,cr] at this;exact this
  have hlen:kvs.length<=64:=by
   have:=xR (m:=GROUPPAIRS.map λx=>([az x.1,az x.2]:List Key)) nd λk GX=>by
    obtain ⟨a,b,rfl,h1,h2,h3,h4⟩:=hk k GX;exact aj.mpr ⟨(a,b),Du.mpr ⟨⟨h1,h2⟩,h3,h4⟩,rfl⟩
   rw [ab,ab] at this;exact this
  refine ⟨_,(am (l6 hu (aT (pv 0) rfl) (fM (ae (bi aZ (pv 1) aE (λ_ _=>rfl)) (ae (bi aZ (pv 1) aE (λ_ _=>rfl)) ax))) (dM gg (bi aZ (pv 1) aE (λ_ _=>rfl)) aE (bR _)) rfl)
   (aA (aY (bK (ae aE ax))))),?_⟩
  refine ⟨_,rfl,ln,_,2,_,rfl,rfl, .of hn,at_of (j:=2) rfl rfl,rfl,_,rfl,aH hh.yd ⟨_,rfl,ln,_,0,_,rfl,rfl, .of hn,at_of (j:=0) rfl rfl,_,rfl,ln,_,1,_,rfl,rfl, .of hn,at_of (j:=1) rfl rfl,(by show 2<=sizeLine;decide),λtp Xu=>?_⟩⟩;have s1:aB H (upd H tp (.tup [.int g, .int g'])):=aB.new Xu;have fH:=hh.mono s1;refine ⟨h.t,_,rfl,oq.t (k:= [az g,az g']) (s1 _ _ ht) ak (by have:sizeLine=16777216:=adY;omega),?_⟩;have es:step s (.combine g g' y)=({s with combos:=GROUPPAIRS.filter λx=>if x=(g,g') then decide (y=1) else s.combos.contains x},[0]):=rfl;rw [es] at q ve;have H2:=fH.Gb (kvs:=putK kvs [az g,az g'] (.bl (decide (V.int y=V.int 1)))) ve (Gp nd) (λk GX=>by
   rw [AQ] at GX;by_cases e:(cx kvs [az g,az g']).isSome=true
   ·rw [if_pos e] at GX;exact hk k GX
   ·rw [if_neg e] at GX;rcases bG.mp GX with z|z
    ·exact hk k z
    ·exact ⟨g,g',aP.mp z,DN.1.1.1,DN.1.1.2,DN.1.2.1,DN.1.2.2⟩) (λa b=>by
   rw [uq];by_cases e:(a,b)=(g,g')
   ·cases e;rw [if_pos rfl];show V.bl (decide (V.int y=V.int 1))=_
    congr 1
    rw [dV,aX];simp only [eW,au,decide_eq_true_eq];rw [if_pos trivial];simp only [decide_eq_true_eq];exact ⟨λz=>⟨Du.mpr DN.1,z⟩,λz=>z.2⟩
   ·rw [if_neg (λz=>e (by
     simp only [eU,kR,and_true] at z;rw [z.1,z.2])),hv]
    congr 1
    rw [aX];simp only [eW,au];rw [if_neg e];simp only [eW];exact ⟨λz=>⟨Du.mpr (by have:=hh.ok.co _ z;exact ⟨⟨this.1,this.2.1⟩,this.2.2⟩),z⟩,λz=>z.2⟩)
  have fr:Frame h (upd H tp (.tup [.int g, .int g'])) (upd (upd H tp (.tup [.int g, .int g'])) h.t (.dT (putK kvs [az g,az g'] (.bl (decide (V.int y=V.int 1)))))):=dH.frame dH.upd (by unfold HA.foot;simp);refine ⟨(by show 1<=sizeLine;decide),λl nl=>?_⟩;obtain ⟨rj,_⟩:=i0 (s1 _ _ ht) nl;exact q _ l _ (((kj s1).trans fr).trans (kj (aB.new nl))) (s1.free rj) ak (H2.mono (aB.new nl))
def Pr:bh ["amounts","name","amount"] ["amounts","name","amount"] (aS (top 21)):=fE
def QN (D:Dn K mg "put_amount" (top 21) ["amounts","name","amount"]) (b:Bl mg) (c:Cs mg):Fn P w K mg base "put_amount" 1 ["amounts","name","amount"] IP:=by
 refine D.fn λf fd F=>F.ok Pr (λvs H Q E h=>?_) (λdD A outer s H vs Q E hr h=>?_)
 ·rcases h with ⟨_,_,_,_,rfl,_⟩|⟨_,_,_,_,_,rfl,_⟩<;>rfl
 ·have hu:=jP hr;have hz:sizeLine=16777216:=adY;rcases h with ⟨a,kvs,k,m,rfl,ha,h40,q⟩|⟨a,b',kvs,k,m,rfl,ha,hb,h40,q⟩
  ·refine ⟨_,(am (cF (cD gg (pv 2) aE (bR _))
     (am (eO (Ju (pv 0) (pv 1) l8 ⟨rfl,rfl,rfl,rfl⟩))
    (aA (aY (bK (ae aE ax)))))
     bI)
    (am (cF (pM (gc (oI hu (pv 1) (pv 0))) (l5 (cD E4 (K5 b.len (pv 0)) (kG c.qS) (bR _)))).pt
     (aA (aY (bK (ae (kG c.Rg) ax))))
     bI)
    (am (l6 hu (pv 0) (pv 1) (pv 2) rfl)
    (aA (aY (bK (ae aE ax))))))),?_⟩
   refine ⟨_,rfl,rfl,_,rfl,?_⟩;by_cases e0:m=0
   ·refine eqT e0 ?_;have ea:kL kvs k m=(gX kvs k,0):=if_pos e0;rw [ea] at q;refine ⟨_,rfl,a,rfl, .inl ⟨_, .inl ha⟩,_,rfl,kvs,k,ha,rfl,λv hv=>?_,λhv=>?_⟩
    ·refine ⟨(by show 1<=sizeLine;decide),λl nl=>?_⟩;obtain ⟨rj,Dr⟩:=i0 ha nl;exact q _ l (dH.upd.trans (aB.but (aB.new nl))) (bp ak Dr.symm) rj ak
    ·refine ⟨(by show 1<=sizeLine;decide),λl nl=>?_⟩;exact q _ l (aB.but (aB.new nl)) (by rw [rV hv];exact bp ha (aG ha nl)) nl ak
   ·refine LO e0 ?_;have put: ¬(cx kvs k=none/\40<=kvs.length)->∀l,(upd H a (.dK (putK kvs k (.int m)))) l=none->Q (.ref l) (upd (upd H a (.dK (putK kvs k (.int m)))) l (.lst [.int 0])):=λgp l nl=>by
     have ea:kL kvs k m=(putK kvs k (.int m),0):=by unfold kL;rw [if_neg e0,if_neg gp]
     rw [ea] at q;obtain ⟨rj,Dr⟩:=i0 ha nl;exact q _ l (dH.upd.trans (aB.but (aB.new nl))) (bp ak Dr.symm) rj ak
    refine ⟨_,rfl,_,rfl,a,_,rfl,j7.k (k:=k) ha,_,rfl,?_⟩;cases ev:cx kvs k with
    |some v=>
     refine tq ?_;refine ⟨_,rfl,_,rfl,_,rfl,a,_,rfl,oq.k (k:=k) ha (by omega),?_⟩;exact ⟨(by show 1<=sizeLine;decide),λl nl=>put (λz=>by rw [ev] at z;cases z.1) l nl⟩
    |none=>
     refine o0 ?_;refine ⟨_,rfl,a,_,rfl,ha,_,_,rfl,rfl,_,rfl,?_⟩;by_cases e1:40<=kvs.length
     ·refine dT (by omega) ?_;have ea:kL kvs k m=(kvs, -8):=by unfold kL;rw [if_neg e0,if_pos ⟨ev,e1⟩]
      rw [ea] at q;exact ⟨(by show 1<=sizeLine;decide),λl nl=>q _ l (aB.but (aB.new nl)) (bp ha (aG ha nl)) nl ak⟩
     ·refine dF (by omega) ?_;refine ⟨_,rfl,_,rfl,_,rfl,a,_,rfl,oq.k (k:=k) ha (by omega),?_⟩;exact ⟨(by show 1<=sizeLine;decide),λl nl=>put (λz=>e1 z.2) l nl⟩
  ·refine ⟨_,(am (cF (cD gg (pv 2) aE (bR _))
     (am (eO (Gx hu (pv 0) (pv 1) l8 ⟨rfl,rfl,rfl,rfl⟩))
    (aA (aY (bK (ae aE ax)))))
     bI)
    (am (cF (pM (gc (oI hu (pv 1) (pv 0))) (l5 (cD E4 (QT b.len (pv 0)) (kG c.qS) (bR _)))).pt
     (aA (aY (bK (ae (kG c.Rg) ax))))
     bI)
    (am (l6 hu (pv 0) (pv 1) (pv 2) rfl)
    (aA (aY (bK (ae aE ax))))))),?_⟩
   refine ⟨_,rfl,rfl,_,rfl,?_⟩;by_cases e0:m=0
   ·refine eqT e0 ?_;have ea:kL kvs k m=(gX kvs k,0):=if_pos e0;rw [ea] at q;refine ⟨_,rfl,a,rfl, .inr ⟨_, .inl ha⟩,_,rfl,kvs,k,b',ha,rfl,hb,λv hv=>?_,λhv=>?_⟩
    ·refine ⟨(by show 1<=sizeLine;decide),λl nl=>?_⟩;obtain ⟨rj,Dr⟩:=i0 ha nl;exact q _ l (dH.upd.trans (aB.but (aB.new nl))) (bp ak Dr.symm) rj ak
    ·refine ⟨(by show 1<=sizeLine;decide),λl nl=>?_⟩;exact q _ l (aB.but (aB.new nl)) (by rw [rV hv];exact bp ha (aG ha nl)) nl ak
   ·refine LO e0 ?_;have put: ¬(cx kvs k=none/\40<=kvs.length)->∀l,(upd H a (.dT (putK kvs k (.int m)))) l=none->Q (.ref l) (upd (upd H a (.dT (putK kvs k (.int m)))) l (.lst [.int 0])):=λgp l nl=>by
     have ea:kL kvs k m=(putK kvs k (.int m),0):=by unfold kL;rw [if_neg e0,if_neg gp]
     rw [ea] at q;obtain ⟨rj,Dr⟩:=i0 ha nl;exact q _ l (dH.upd.trans (aB.but (aB.new nl))) (bp ak Dr.symm) rj ak
    refine ⟨_,rfl,_,rfl,a,_,rfl,j7.t (k:=k) ha hb,_,rfl,?_⟩;cases ev:cx kvs k with
    |some v=>
     refine tq ?_;refine ⟨_,rfl,_,rfl,_,rfl,a,_,rfl,oq.t (k:=k) ha hb (by omega),?_⟩;exact ⟨(by show 1<=sizeLine;decide),λl nl=>put (λz=>by rw [ev] at z;cases z.1) l nl⟩
    |none=>
     refine o0 ?_;refine ⟨_,rfl,a,_,rfl,ha,_,_,rfl,rfl,_,rfl,?_⟩;by_cases e1:40<=kvs.length
     ·refine dT (by omega) ?_;have ea:kL kvs k m=(kvs, -8):=by unfold kL;rw [if_neg e0,if_pos ⟨ev,e1⟩]
      rw [ea] at q;exact ⟨(by show 1<=sizeLine;decide),λl nl=>q _ l (aB.but (aB.new nl)) (bp ha (aG ha nl)) nl ak⟩
     ·refine dF (by omega) ?_;refine ⟨_,rfl,_,rfl,_,rfl,a,_,rfl,oq.t (k:=k) ha hb (by omega),?_⟩;exact ⟨(by show 1<=sizeLine;decide),λl nl=>put (λz=>e1 z.2) l nl⟩
end
end Lf
namespace Lf
open Vbahaf (Call step inRange FLOORS TAXES withFloor withTax isFloor)
def K2 (x:Int×Int×Int):List Key×V:=([az x.1,az x.2.1],V.int x.2.2)
def K1 (x:Int×Int):Key×V:=(az x.1,V.int x.2)
def ba.uL {K:aa} {H H':Hp} {h:HA} {s:ag} {fl:List aq} (x:ba K H h s fl) {kvs:List (List Key×V)} {os:List (Int×Int×Int)} (ok:kM {s with floors:=os}) (hp:kvs.Perm (os.map K2)) (b:dH h.o H H') (hv:H' h.o=some (.dT kvs)):ba K H' h {s with floors:=os} fl:=by
 obtain ⟨ZJ,hf,_⟩:=x.floors;have o:wF H h.p h.o:=Jy hf;obtain ⟨S4,hc,perm,⟨jv,i1,i2⟩,⟨gO,f1,f2,f3⟩,⟨kt,t1,t2⟩,⟨ko,o1,o2⟩,⟨kx,x1,x2⟩,p,n1,n2⟩:=x;exact ⟨ok,hc,perm,⟨jv,b _ _ (cg i1 hf λz=>nomatch z) i1,o.jm (z:=h.z) (jv:=jv) b i2⟩,⟨gO,b _ _ (cg f1 hf λz=>nomatch z) f1,f2.mono λ_ _ z=>o.fare b z,f3.mono λ_ _ z=>o.GD b z⟩,⟨kt,b _ _ n2 t1,t2⟩,⟨kvs,hv,hp⟩,⟨kx,b _ _ (cg x1 hf λz=>nomatch z) x1,x2⟩,b _ _ (cg p hf λz=>nomatch z) p,n1,n2⟩
def ba.xF {K:aa} {H H':Hp} {h:HA} {s:ag} {fl:List aq} (x:ba K H h s fl) {kvs:List (Key×V)} {ts:List (Int×Int)} (ok:kM {s with taxes:=ts}) (hp:kvs.Perm (ts.map K1)) (b:dH h.x H H') (hv:H' h.x=some (.dK kvs)):ba K H' h {s with taxes:=ts} fl:=by
 obtain ⟨ZJ,hf,_⟩:=x.taxes;have o:wF H h.p h.x:=Jz hf;obtain ⟨S4,hc,perm,⟨jv,i1,i2⟩,⟨gO,f1,f2,f3⟩,⟨kt,t1,t2⟩,⟨ko,o1,o2⟩,⟨kx,x1,x2⟩,p,n1,n2⟩:=x;exact ⟨ok,hc,perm,⟨jv,b _ _ (cg i1 hf λz=>nomatch z) i1,o.jm (z:=h.z) (jv:=jv) b i2⟩,⟨gO,b _ _ n1 f1,f2.mono λ_ _ z=>o.fare b z,f3.mono λ_ _ z=>o.GD b z⟩,⟨kt,b _ _ (cg t1 hf λz=>nomatch z) t1,t2⟩,⟨ko,b _ _ (cg o1 hf λz=>nomatch z) o1,o2⟩,⟨kvs,hv,hp⟩,b _ _ (cg p hf λz=>nomatch z) p,n1,n2⟩
def BW {κ α:Type} [DecidableEq κ] {kvs:List (κ×V)} {l new:List α} {enc:α->κ×V} {k:κ} {m:Int} {one:α} {off:α->Bool} (hp:kvs.Perm (l.map enc)) (nd:(kvs.map (·.1)).Nodup) (h1:enc one=(k, .int m)) (h2: ∀x,off x=decide ((enc x).1≠k)) (hn:new.Perm ((if m=0 then [] else [one])++l.filter off)) (hm: ¬(m≠0/\cx kvs k=none/\40<=kvs.length)):
  (kL kvs k m).1.Perm (new.map enc)/\(kL kvs k m).2=0:=by
 have hd:(gX kvs k).Perm ((l.filter off).map enc):=by
  unfold gX;refine (hp.filter _).trans ?_;rw [ik];refine Ig _ (jb (iH λx _=>?_));exact (h2 x).symm
 unfold kL;by_cases e:m=0
 ·rw [if_pos e];rw [if_pos e] at hn;exact ⟨hd.trans (hn.map enc).symm,rfl⟩
 ·rw [if_neg e,if_neg (λz=>hm ⟨e,z⟩)];rw [if_neg e] at hn;refine ⟨(Jk nd).trans (i9 ?_ (hn.map enc).symm),rfl⟩;show ((k,V.int m)::gX kvs k).Perm (enc one::(l.filter off).map enc);rw [h1];exact hd.cons _
def any_none {κ α:Type} [DecidableEq κ] {kvs:List (κ×V)} {l:List α} {enc:α->κ×V} {k:κ} {is:α->Bool} (hp:kvs.Perm (l.map enc)) (h2: ∀x,is x=decide ((enc x).1=k)):l.any is=(cx kvs k).isSome:=by
 rw [<-fT,aX,gS,gS];constructor
 ·rintro ⟨x,hx,e⟩;rw [h2] at e;exact ⟨enc x,hp.mem_iff.mpr (aj.mpr ⟨x,hx,rfl⟩),e⟩
 ·rintro ⟨y,hy,e⟩;obtain ⟨x,hx,rfl⟩:=aj.mp (hp.mem_iff.mp hy);exact ⟨x,hx,by rw [h2];exact e⟩
def ba.KQ {K:aa} {H:Hp} {h:HA} {s:ag} {fl:List aq} (x:ba K H h s fl) {kvs:List (List Key×V)} (h2:kvs.Perm (s.floors.map K2)):(kvs.map (·.1)).Nodup:=by
 refine (h2.map _).nodup_iff.mpr ?_;rw [bm];have:=gE (f:=λy:Int×Int=>([az y.1,az y.2]:List Key)) (λa b e=>by
  obtain ⟨a1,a2⟩:=a;obtain ⟨b1,b2⟩:=b;simp only [eU,kR,and_true] at e;rw [e.1,e.2]) x.ok.os
 rw [bm] at this;exact this
def ba.Me {K:aa} {H:Hp} {h:HA} {s:ag} {fl:List aq} (x:ba K H h s fl) {kvs:List (Key×V)} (h2:kvs.Perm (s.taxes.map K1)):(kvs.map (·.1)).Nodup:=by
 refine (h2.map _).nodup_iff.mpr ?_;rw [bm];have:=gE (f:=λy:Int=>(az y:Key)) (λa b e=>cY e) x.ok.ts;rw [bm] at this;exact this
section
variable {P:adT} {w:adQ} {K:aa} {mg:Str->Option Value} {base:adO} {t:CA}
def Gf:bh ["house","numbers","row"] ["house","numbers","row"] (aS (top 22)):=fE
def Hj (D:Dn K mg "put_floor" (top 22) ["house","numbers","row"]) (c:Cs mg) (G:Fn P w K mg base "put_amount" 1 ["amounts","name","amount"] IP):Fn P w K mg base "put_floor" 2 ["house","numbers","row"] (d7 K y9):=by
 refine D.fn λf fd F=>F.ok Gf (λvs H Q E h=>?_) (λdD A outer s H vs Q E hr h=>?_)
 ·obtain ⟨_,_,_,_,_,_,_,_,rfl,_⟩:=h;rfl
 ·obtain ⟨h,s,fl,ln,lw,ns,rw,cl,rfl,hh,hn,hw,⟨a,b,m,rfl,rfl⟩,g9,pV,q⟩:=h;have ve:=kb hh.ok g9;refine ⟨_,(am (cF (cD gg (bi aZ (pv 1) aE (λ_ _=>rfl)) (bi aZ (pv 1) aE (λ_ _=>rfl)) (bR _))
    (aA (aY (bK (ae (kG c.sj) ax))))
    bI)
   (aA (aY (pc G (hr.mono (by decide)) (ae (aT (pv 0) rfl) (ae (fM (ae (bi aZ (pv 1) aE (λ_ _=>rfl)) (ae (bi aZ (pv 1) aE (λ_ _=>rfl)) ax))) (ae (bi aZ (pv 1) aE (λ_ _=>rfl)) ax))))))),?_⟩
  refine ⟨_,rfl,ln,_,0,_,rfl,rfl, .of hn,at_of (j:=0) rfl rfl,_,rfl,ln,_,1,_,rfl,rfl, .of hn,at_of (j:=1) rfl rfl,rfl,_,rfl,?_⟩;by_cases e1:a=b
  ·refine eqT e1 ?_;have es:step s (.floor a b m)=(s,[-6]):=if_pos e1;rw [es] at q;exact ⟨(by show 1<=sizeLine;decide),λl nl=>q _ l fl (kj (aB.new nl)) nl ak (hh.mono (aB.new nl))⟩
  ·refine LO e1 ?_;refine ⟨_,rfl,aH hh.Fq ⟨_,rfl,ln,_,0,_,rfl,rfl, .of hn,at_of (j:=0) rfl rfl,_,rfl,ln,_,1,_,rfl,rfl, .of hn,at_of (j:=1) rfl rfl,(by show 2<=sizeLine;decide),λtp Xu=>?_⟩⟩;have s1:aB H (upd H tp (.tup [.int a, .int b])):=aB.new Xu;have fH:=hh.mono s1;obtain ⟨kvs,ho,hp⟩:=fH.floors;have hp:kvs.Perm (s.floors.map K2):=hp;have nd:=fH.KQ hp;have hl:kvs.length=s.floors.length:=by rw [hp.length_eq,ab]
   have J8:s.floors.any (isFloor a b)=(cx kvs [az a,az b]).isSome:=any_none hp λx=>by
    unfold isFloor K2;rw [aX];simp
   refine ⟨_,rfl,ln,_,2,_,rfl,rfl, .of (s1 _ _ hn),at_of (j:=2) rfl rfl, .inr ⟨h.o,tp,kvs,[az a,az b],m,rfl,ho,ak,by rw [hl];exact hh.ok.ol,λH2 l b2 hv nl Ct=>?_⟩⟩;have fr:Frame h H H2:=(kj s1).trans (dH.frame b2 (by unfold HA.foot;simp));have OO:step s (.floor a b m)=if (s.floors.any (isFloor a b))=false/\m≠0/\FLOORS<=s.floors.length then (s,[-8]) else ({s with floors:=withFloor s.floors a b m},[0]):=if_neg e1
   by_cases e2:(s.floors.any (isFloor a b))=false/\m≠0/\FLOORS<=s.floors.length
   ·have es:step s (.floor a b m)=(s,[-8]):=by rw [OO,if_pos e2]
    rw [es] at q;have ev:cx kvs [az a,az b]=none:=by
     have:=e2.1;rw [J8] at this;simpa using this
    have ea:kL kvs [az a,az b] m=(kvs, -8):=by
     unfold kL;rw [if_neg e2.2.1,if_pos ⟨ev,by rw [hl];exact e2.2.2⟩]
    rw [ea] at hv Ct;exact q H2 l fl fr (s1.free nl) Ct (fH.uL (os:=s.floors) hh.ok hp b2 hv)
   ·have es:step s (.floor a b m)=({s with floors:=withFloor s.floors a b m},[0]):=by rw [OO,if_neg e2]
    rw [es] at q ve;obtain ⟨g1,g2⟩:=BW (m:=m) (one:=(a,b,m)) (off:=λx=>!isFloor a b x) (new:=withFloor s.floors a b m) (k:= [az a,az b]) hp nd rfl (λx=>by
     unfold isFloor K2;rw [aX];simp) (nh s.floors a b m) (λz=>e2 ⟨by rw [J8,z.2.1];rfl,z.1,by rw [<-hl];exact z.2.2⟩)
    rw [g2] at Ct;exact q H2 l fl fr (s1.free nl) Ct (fH.uL ve g1 b2 hv)
def Mt:bh ["house","numbers","row"] ["house","numbers","row"] (aS (top 23)):=fE
def Nt (D:Dn K mg "put_tax" (top 23) ["house","numbers","row"]) (G:Fn P w K mg base "put_amount" 1 ["amounts","name","amount"] IP):Fn P w K mg base "put_tax" 2 ["house","numbers","row"] (d7 K JB):=by
 refine D.fn λf fd F=>F.ok Mt (λvs H Q E h=>?_) (λdD A outer s H vs Q E hr h=>?_)
 ·obtain ⟨_,_,_,_,_,_,_,_,rfl,_⟩:=h;rfl
 ·obtain ⟨h,s,fl,ln,lw,ns,rw,cl,rfl,hh,hn,hw,⟨a,m,rfl,rfl⟩,g9,pV,q⟩:=h;have ve:=kb hh.ok g9;obtain ⟨kvs,ho,hp⟩:=hh.taxes;have hp:kvs.Perm (s.taxes.map K1):=hp;have nd:=hh.Me hp;have hl:kvs.length=s.taxes.length:=by rw [hp.length_eq,ab]
  have J8:(s.taxes.any λx=>decide (x.1=a))=(cx kvs (az a)).isSome:=any_none hp λx=>by
   unfold K1;rw [decide_eq_decide];exact ⟨λe=>by rw [e],λe=>cY e⟩
  refine ⟨_,(aA (aY (pc G (hr.mono (by decide)) (ae (aT (pv 0) rfl) (ae (bi aZ (pv 1) aE (λ_ _=>rfl)) (ae (bi aZ (pv 1) aE (λ_ _=>rfl)) ax)))))),?_⟩;refine ⟨_,rfl,aH hh.KU ⟨_,rfl,ln,_,0,_,rfl,rfl, .of hn,at_of (j:=0) rfl rfl,_,rfl,ln,_,1,_,rfl,rfl, .of hn,at_of (j:=1) rfl rfl, .inl ⟨h.x,kvs,az a,m,rfl,ho,by rw [hl];exact hh.ok.tl,λH2 l b2 hv nl Ct=>?_⟩⟩⟩;have fr:Frame h H H2:=dH.frame b2 (by unfold HA.foot;simp);have OO:step s (.tax a m)=if (s.taxes.any λx=>decide (x.1=a))=false/\m≠0/\TAXES<=s.taxes.length then (s,[-8]) else ({s with taxes:=withTax s.taxes a m},[0]):=rfl
  by_cases e2:(s.taxes.any λx=>decide (x.1=a))=false/\m≠0/\TAXES<=s.taxes.length
  ·have es:step s (.tax a m)=(s,[-8]):=by rw [OO,if_pos e2]
   rw [es] at q;have ev:cx kvs (az a)=none:=by
    have:=e2.1;rw [J8] at this;simpa using this
   have ea:kL kvs (az a) m=(kvs, -8):=by
    unfold kL;rw [if_neg e2.2.1,if_pos ⟨ev,by rw [hl];exact e2.2.2⟩]
   rw [ea] at hv Ct;exact q H2 l fl fr nl Ct (hh.xF (ts:=s.taxes) hh.ok hp b2 hv)
  ·have es:step s (.tax a m)=({s with taxes:=withTax s.taxes a m},[0]):=by rw [OO,if_neg e2]
   rw [es] at q ve;obtain ⟨g1,g2⟩:=BW (m:=m) (one:=(a,m)) (off:=λx=>decide (x.1≠a)) (new:=withTax s.taxes a m) (k:=az a) hp nd rfl (λx=>by
    unfold K1;rw [decide_eq_decide];exact ⟨λz e=>z (cY e),λz e=>z (by rw [e])⟩) (ql s.taxes a m) (λz=>e2 ⟨by rw [J8,z.2.1];rfl,z.1,by rw [<-hl];exact z.2.2⟩)
   rw [g2] at Ct;exact q H2 l fl fr nl Ct (hh.xF ve g1 b2 hv)
def Dj (ns rw:List Int) (c:Call):Prop:= ∃k p,c= .percent k p/\ns= [k,p]
def Dh (ns rw:List Int) (c:Call):Prop:= ∃u,c= .unit u/\ns= [u]
def IS:bh ["house","numbers","row"] ["house","numbers","row"] (aS (top 24)):=fE
def Ky (D:Dn K mg "put_percent" (top 24) ["house","numbers","row"]):Fn P w K mg base "put_percent" 1 ["house","numbers","row"] (d7 K Dj):=by
 refine D.fn λf fd F=>F.ok IS (λvs H Q E h=>?_) (λdD A outer s H vs Q E hr h=>?_)
 ·obtain ⟨_,_,_,_,_,_,_,_,rfl,_⟩:=h;rfl
 ·obtain ⟨h,s,fl,ln,lw,ns,rw,cl,rfl,hh,hn,hw,⟨k,p,rfl,rfl⟩,g9,pV,q⟩:=h;have ve:=kb hh.ok g9;have hk:0<=k/\k<=4:=by
   have:(cw k&&cC 0 200 p)=true:=g9;unfold cw at this;simp only [aU,cr] at this;exact this.1
  have hpl:=hh.ok.pl;refine ⟨_,(am (Pw (bi aZ (pv 1) aE (λ_ _=>rfl)) (Px (aT (pv 0) rfl) (bi aZ (pv 1) aE (λ_ _=>rfl)) set_list))
   (aA (aY (bK (ae aE ax))))),?_⟩
  refine ⟨_,rfl,ln,_,1,_,rfl,rfl, .of hn,at_of (j:=1) rfl rfl,_,rfl,aH hh.ye ⟨_,rfl,ln,_,0,_,rfl,rfl, .of hn,at_of (j:=0) rfl rfl,h.p,_,k,k.toNat,rfl,rfl,hh.percents,?_,?_⟩⟩
  ·unfold HW;rw [if_pos hk.1,if_pos (by rw [ab,hpl];omega)]
  ·have es:step s (.percent k p)=({s with percents:=s.percents.set k.toNat p},[0]):=rfl;rw [es] at q ve;have H2:=hh.Av ve;rw [show (s.percents.map V.int).set k.toNat (.int p)=(s.percents.set k.toNat p).map V.int by rw [List.map_set]];refine ⟨(by show 1<=sizeLine;decide),λl nl=>?_⟩;obtain ⟨rj,_⟩:=i0 hh.percents nl;exact q _ l _ ((dH.frame dH.upd (by unfold HA.foot;simp)).trans (kj (aB.new nl))) rj ak (H2.mono (aB.new nl))
def IR:bh ["house","numbers","row"] ["house","numbers","row"] (aS (top 25)):=fE
def Kx (D:Dn K mg "put_unit" (top 25) ["house","numbers","row"]):Fn P w K mg base "put_unit" 1 ["house","numbers","row"] (d7 K Dh):=by
 refine D.fn λf fd F=>F.ok IR (λvs H Q E h=>?_) (λdD A outer s H vs Q E hr h=>?_)
 ·obtain ⟨_,_,_,_,_,_,_,_,rfl,_⟩:=h;rfl
 ·obtain ⟨h,s,fl,ln,lw,ns,rw,cl,rfl,hh,hn,hw,⟨u,rfl,rfl⟩,g9,pV,q⟩:=h;have ve:=kb hh.ok g9;obtain ⟨jv,i1,i2⟩:=hh.inst;refine ⟨_,(am (bW (pv 0) (bi aZ (pv 1) aE (λ_ _=>rfl)) rfl)
   (aA (aY (bK (ae aE ax))))),?_⟩
  refine ⟨_,rfl,ln,_,0,_,rfl,rfl, .of hn,at_of (j:=0) rfl rfl,_,rfl,h.a,h.C,h.dx,_,rfl,i1,hh.hc.cl,hh.hc.n6,(by show 7<1000;decide),?_⟩;have es:step s (.unit u)=({s with unit:=u},[0]):=rfl;rw [es] at q ve;have H2:=hh.EL (u:=u) (jv:=jv) (oj:=s.journey) ve i2;refine ⟨(by show 1<=sizeLine;decide),λl nl=>?_⟩;obtain ⟨rj,_⟩:=i0 i1 nl;exact q _ l _ ((dH.frame dH.upd (by unfold HA.foot;simp)).trans (kj (aB.new nl))) rj ak (H2.mono (aB.new nl))
end
end Lf
namespace Lf
open Vbahaf (Call step inRange segsOf joins dayOf)
def jR:Int->Int->List bT->Bool
 |_,_,[]=>true
 |day,at_,g::r=>(decide (g.src≠g.dst)&&(decide (g.src=at_)&&decide (day<=g.day)))&&jR g.day g.dst r
def qK: ∀(r:List bT) (g:bT) (day:Int),jR day g.src (g::r)=(joins (g::r)&&decide (day<=g.day))
 | [],g,day=>by
  show ((decide (g.src≠g.dst)&&(decide (g.src=g.src)&&decide (day<=g.day)))&&true)=(decide (g.src≠g.dst)&&decide (day<=g.day))
  rw [decide_eq_true rfl,cV,eN]
 |b::r,a,day=>by
  show ((decide (a.src≠a.dst)&&(decide (a.src=a.src)&&decide (day<=a.day)))&&((decide (b.src≠b.dst)&&(decide (b.src=a.dst)&&decide (a.day<=b.day)))&&jR b.day b.dst r))=((decide (a.src≠a.dst)&&(decide (a.dst=b.src)&&(decide (a.day<=b.day)&&joins (b::r))))&&decide (day<=a.day))
  have ih:=qK r b a.day;by_cases e:b.src=a.dst
  ·have ZL:((decide (b.src≠b.dst)&&(decide (b.src=b.src)&&decide (a.day<=b.day)))&&jR b.day b.dst r)=(joins (b::r)&&decide (a.day<=b.day)):=ih;rw [decide_eq_true (rfl:b.src=b.src)] at ZL;rw [decide_eq_true e,decide_eq_true e.symm,ZL,decide_eq_true (rfl:a.src=a.src)];cases decide (a.src≠a.dst)<;>cases decide (day<=a.day)<;>cases decide (a.day<=b.day)<;>cases joins (b::r)<;>rfl
  ·rw [decide_eq_false e,decide_eq_false (λz:a.dst=b.src=>e z.symm)];cases decide (a.src≠a.dst)<;>cases decide (day<=a.day)<;>simp
def Gj {n:Int} {gs:List bT} {g:bT} (h:gs[0]?=some g):jR n g.src gs=!(decide (joins gs=false∨dayOf gs<n)):=by
 cases gs with
 |nil=>cases h
 |cons a r=>
  cases h;rw [qK];show (joins (g::r)&&decide (n<=g.day))=!(decide (joins (g::r)=false∨g.day<n));rw [aX];simp
def ED (K:aa):Sp:=λvs H Q _=> ∃(n:Int) (l:Addr) (as:List Addr) (gs:List bT) (g:bT),vs= [.int n, .ref l]/\H l=some (.lst (as.map V.ref))/\bQ (jn K H) as gs/\gs[0]?=some g/\Q (.bl (jR n g.src gs)) H
def Dl (ns rw:List Int) (c:Call):Prop:= ∃n,c= .journey n rw/\ns= [n]
def rg5 {n:Nat} (h:n<=60) (h5:n%5=0):Ze 0 (n:Int) 5 (n/5):=by
 have key: ∀n:Nat,n<61->n%5=0->Builtin.Range.small 0 (n:Int) 5=true/\Builtin.Range.rangeSize 0 (n:Int) 5=((n/5:Nat):Int):=by decide+kernel
 obtain ⟨a,b⟩:=key n (by omega) h5;exact ⟨by decide,by decide,a,b⟩
def Ax: ∀{rw:List Int} {k:Nat} {g:bT},(segsOf rw)[k]?=some g->5*k+5<=rw.length/\(rw.drop (5*k)).take 5=fL g
 | [],k,x,h=>by simp [segsOf] at h
 | [_],k,x,h=>by simp [segsOf] at h
 | [_,_],k,x,h=>by simp [segsOf] at h
 | [_,_,_],k,x,h=>by simp [segsOf] at h
 | [_,_,_,_],k,x,h=>by simp [segsOf] at h
 |a::b::c::d::e::r,0,x,h=>by
  have h:({carrier:=a,src:=b,dst:=c,day:=d,cls:=e}:bT)=x:=by simpa [segsOf] using h
  subst h;exact ⟨by simp,rfl⟩
 |a::b::c::d::e::r,k+1,x,h=>by
  have h:(segsOf r)[k]?=some x:=by simpa [segsOf] using h
  obtain ⟨h1,h2⟩:=Ax h;refine ⟨by simp only [aR];omega,?_⟩;rw [show 5*(k+1)=5*k+5 by omega];exact h2
section
variable {P:adT} {w:adQ} {K:aa} {mg:Str->Option Value} {base:adO} {t:CA}
def k4:bh ["now","segments","day","airport","segment"] ["now","segments"] (aS (top 26)):=fE
def Kw (D:Dn K mg "is_right" (top 26) ["now","segments"]):Fn P w K mg base "is_right" 1 ["now","segments"] (ED K):=by
 refine D.fn λf fd F=>F.ok k4 (λvs H Q E h=>?_) (λdD A outer s H vs Q E hr h=>?_)
 ·obtain ⟨_,_,_,_,_,rfl,_⟩:=h;rfl
 ·obtain ⟨n,l,as,gs,g0,rfl,hl,hs,J1,q⟩:=h;obtain ⟨a0,RM,Rq⟩:=hs.get J1;refine ⟨_,(am (st 2 k4.nd (pv 0))
   (am (st 3 k4.nd (aT (bi aZ (pv 1) aE (λ_ _=>rfl)) rfl))
   (am (dw PassesOwn.never rfl (cE (pv 1)) (gn 4 k4.nd)
    (am (cF (AN (cD gg (aT (pv 4) rfl) (aT (pv 4) rfl) (bR _)) (AN (cD va (aT (pv 4) rfl) (pv 3) (bR _)) (C9 (cD xP (aT (pv 4) rfl) (pv 2) (bR _))))).pt
    (aA (aY iE))
    bI)
   (am (st 2 k4.nd (aT (pv 4) rfl))
   (aA (st 3 k4.nd (aT (pv 4) rfl))))))
   (aA (aY iE))))),?_⟩
  refine ⟨_,rfl,?_⟩;refine ⟨_,rfl,l,_,0,_,rfl,rfl, .of hl,at_of (j:=0) rfl (bC RM),aH Rq.origin ?_⟩;refine ⟨_,rfl,l,rfl,⟨_, .of hl⟩,fc (K:=K) (a:=l) (xs:=as.map V.ref) (λm σ H'=>H'=H/\∃(dy ap:Int) (v4:Option V),σ= [some (.int n),some (.ref l),some (.int dy),some (.int ap),v4]/\jR n g0.src gs=jR dy ap (gs.drop m)) ⟨rfl,n,g0.src,_,rfl,rfl⟩ (λm σ H' _ ⟨e,_⟩=>by rw [e];exact .of hl) ?_ ?_⟩
  ·rintro m y σ H1 hy ⟨rfl,dy,ap,v4,rfl,OE⟩;obtain ⟨a,ha,rfl⟩:=b0 hy;obtain ⟨g,hg,sa⟩:=hs.get' ha;have hd:gs.drop m=g::gs.drop (m+1):=by
    obtain ⟨hm,e⟩:=aK.mp hg;rw [g5 hm,e]
   have Ng:jR n g0.src gs=((decide (g.src≠g.dst)&&(decide (g.src=ap)&&decide (dy<=g.day)))&&jR g.day g.dst (gs.drop (m+1))):=by rw [OE,hd];rfl
   refine ⟨_,rfl,aH sa.origin ⟨_,rfl,aH sa.target ⟨rfl,_,rfl,?_⟩⟩⟩;by_cases e1:g.src=g.dst
   ·refine eqT e1 (o0 ?_);exact ck q (by rw [Ng,decide_eq_false (λz=>z e1)];rfl)
   ·refine LO e1 ⟨_,rfl,aH sa.origin ⟨_,rfl,rfl,_,rfl,?_⟩⟩;by_cases e2:g.src=ap
    ·refine Rw e2 ⟨_,rfl,aH sa.day ⟨_,rfl,_,_,rfl,rfl,_,rfl,?_⟩⟩;by_cases e3:g.day<dy
     ·refine dT e3 ?_;exact ck q (by rw [Ng,decide_eq_false (by omega: ¬dy<=g.day),fK,fK];rfl)
     ·refine dF e3 ?_;refine ⟨_,rfl,aH sa.day ⟨_,rfl,aH sa.target ⟨rfl,g.day,g.dst,_,rfl,?_⟩⟩⟩;rw [Ng,decide_eq_true e1,decide_eq_true e2,decide_eq_true (by omega:dy<=g.day)];rfl
    ·refine neT e2 (o0 ?_);exact ck q (by rw [Ng,decide_eq_false e2,pz,fK];rfl)
  ·rintro σ H1 ⟨rfl,dy,ap,v4,rfl,OE⟩;rw [ab,hs.1,LU] at OE;exact ck q OE
def uQ:bh ["house","numbers","row","segments","at"] ["house","numbers","row"] (aS (top 27)):=fE
def Kz (D:Dn K mg "put_journey" (top 27) ["house","numbers","row"]) (b:Bl mg) (c:Cs mg) (G1:Cl P w K mg base "Segment" t.gh 1 ["self","numbers"] (Od K t.gh)) (G2:Fn P w K mg base "is_right" 1 ["now","segments"] (ED K)) (G3:Cl P w K mg base "Journey" t.Journey 1 ["self","now","segments"] (IM K t.Journey)):
  Fn P w K mg base "put_journey" 3 ["house","numbers","row"] (d7 K Dl):=by
 refine D.fn λf fd F=>F.ok uQ (λvs H Q E h=>?_) (λdD A outer s H vs Q E hr h=>?_)
 ·obtain ⟨_,_,_,_,_,_,_,_,rfl,_⟩:=h;rfl
 ·obtain ⟨h,s,fl,ln,lw,ns,rw,cl,rfl,hh,hn,hw,⟨n,rfl,rfl⟩,g9,pV,q⟩:=h;have ve:=kb hh.ok g9;have DN:5<=rw.length/\rw.length<=40/\rw.length%5=0:=by
   have:(cz n&&(decide (5<=rw.length)&&(decide (rw.length<=40)&&(decide (rw.length%5=0)&&(segsOf rw).all iA))))=true:=g9;simp only [aU,decide_eq_true_eq] at this;exact ⟨this.2.1,this.2.2.1,this.2.2.2.1⟩
  obtain ⟨h5,h40,hm5⟩:=DN;have X3:=pJ rw;refine ⟨_,(am (qB (i:=3) rfl uQ.nd rfl rfl (tR rfl rfl rfl rfl) (xN rfl b.range (ae aE (ae (i4 b.len (pv 2)) (ae (kG c.mJ) ax)))) (cX (own:= [("at",4)]) (by kernel_rfl))
    (λ_ _ _ _ _=>(gn 4 uQ.nd)) (λ_ _ _ _ _=>fw)
    (λ_ _ _ _ _=>(Ly G1 (hr.mono (by decide)) (ae (UX K (pv 2) (iR (pv 4)) (iR (bX fN (pv 4) (kG c.mJ)))) ax))))
   (am (cF (ip (eV (pc G2 (hr.mono (by decide)) (ae (bi aZ (pv 1) aE (λ_ _=>rfl)) (ae (pv 3) ax)))))
    (aA (aY (bK (ae (kG c.sj) ax))))
    bI)
   (am (bW (pv 0) (Ly G3 (hr.mono (by decide)) (ae (bi aZ (pv 1) aE (λ_ _=>rfl)) (ae (pv 3) ax))) rfl)
   (aA (aY (bK (ae aE ax))))))),?_⟩
  refine ⟨_,rfl,lw,_,rfl, .inl (.of hw),0,_,5,rw.length/5,rfl,by rw [ab];exact rg5 (by omega) hm5,λD hD=>DH (n:=rw.length/5) (λn H'=>aB H H'/\∃as:List Addr,H' D=some (.lst (as.map V.ref))/\bQ (jn K H') as ((segsOf rw).take n)/\bQ (λa g=> ∃l,l≠D/\H l=none/\gM K H' a "numbers" (.ref l)/\H' l=some (.lst ((fL g).map V.int))) as ((segsOf rw).take n)) ⟨aB.new hD,[],ak,bQ.nil,bQ.nil⟩ (λi H' hi _=>hi) (λH' _=>ay _) ?_ ?_⟩
  ·rintro m H1 y O0 hm ⟨s1,as,hp,gL,Nd⟩ ⟨rfl,rfl⟩;obtain ⟨g,hg⟩: ∃g,(segsOf rw)[m]?=some g:=⟨_,ao (by rw [X3];exact hm)⟩
   obtain ⟨g1,g2⟩:=Ax hg;refine ⟨rfl,_,rfl,_,rfl,_,rfl,_,rfl,_,_,rfl,rfl,_,rfl,lw,_,rfl, .of (s1 _ _ hw),λp np=>?_⟩;rw [oR (i:=5*m) (e:=5*m+5) (by omega) (by omega) (by omega) (by omega),show 5*m+5-5*m=5 by omega,g2];have s2:aB O0 (upd O0 p (.lst ((fL g).map V.int))):=aB.new np;refine λx dx nx tj PP=>⟨x,dx,p,fL g,rfl,ak,dY nx tj _ _ ak,rfl,λH2 b2 sat QE=>⟨rfl,?_⟩⟩
   have s3:aB (upd O0 p (.lst ((fL g).map V.int))) H2:=dH.same (dY nx tj) nx b2;have Lw:=s2.trans s3;have GV:=Lw _ _ hp;have Rx:D≠p:=aG hp np;have ho: ∀C dx fs,HO.lst (as.map V.ref)≠ .ins C dx fs:=λ_ _ _ z=>nomatch z;have up:dH D H2 (upd H2 D (.lst (as.map V.ref++ [.ref x]))):=dH.upd;refine ⟨as.map V.ref,GV,?_,aB.put (s1.trans Lw) hD,as++ [x],by rw [ak,dX],?_,?_⟩
   ·rw [ab,gL.1,bc];have:sizeLine=16777216:=adY;omega
   ·rw [dQ hg];exact (gL.mono λ_ _ z=>(z.mono Lw).but GV ho up).snoc (sat.but GV ho up)
   ·rw [dQ hg];refine (Nd.mono λ_ _ z=>?_).snoc ⟨p,Rx.symm,s1.free np,QE.but GV ho up,bp (s3 _ _ ak) Rx.symm⟩;obtain ⟨l',z1,z2,z3,z4⟩:=z;exact ⟨l',z1,z2,(z3.mono Lw).but GV ho up,bp (Lw _ _ z4) z1⟩
  ·rintro H1 ⟨s1,as,hp,gL,Nd⟩;rw [cp (by rw [X3];exact ay _)] at gL Nd;have fH:=hh.mono s1;have sH:=s1 _ _ hn;obtain ⟨g0,J1⟩: ∃g,(segsOf rw)[0]?=some g:=⟨_,ao (by rw [X3];omega)⟩
   have eR:=Gj (n:=n) J1;refine ⟨_,rfl,ln,_,0,_,rfl,rfl, .of sH,at_of (j:=0) rfl rfl,_,rfl,n,D,as,segsOf rw,g0,rfl,hp,gL,J1,_,rfl,?_⟩;have OO:step s (.journey n rw)=if joins (segsOf rw)=false∨dayOf (segsOf rw)<n then (s,[-6]) else ({s with journey:=some {now:=n,segs:=segsOf rw}},[0]):=rfl
   refine Br (c:=jR n g0.src (segsOf rw)) (λe=>?_) (λe=>?_)
   ·have e1:joins (segsOf rw)=false∨dayOf (segsOf rw)<n:=by
     rw [eR] at e;exact of_decide_eq_true (im _▸e)
    have es:step s (.journey n rw)=(s,[-6]):=by rw [OO,if_pos e1]
    rw [es] at q;exact ⟨(by show 1<=sizeLine;decide),λl nl=>q _ l fl (kj (s1.trans (aB.new nl))) (s1.free nl) ak (fH.mono (aB.new nl))⟩
   ·have e1: ¬(joins (segsOf rw)=false∨dayOf (segsOf rw)<n):=by
     rw [eR] at e;exact of_decide_eq_false (fq _▸e)
    have es:step s (.journey n rw)=({s with journey:=some {now:=n,segs:=segsOf rw}},[0]):=by rw [OO,if_neg e1]
    rw [es] at q ve;refine ⟨_,rfl,ln,_,0,_,rfl,rfl, .of sH,at_of (j:=0) rfl rfl,_,rfl,λx dx nx tj PP=>⟨x,dx,D,n,rfl,ak,λH2 b2 f1 f2=>⟨rfl,?_⟩⟩⟩;have s2:aB H1 H2:=dH.same (dY nx tj) nx b2;have RI:=fH.mono s2;obtain ⟨jv,i1,i2⟩:=RI.inst;have np: ∀l',H l'=none->l'∉h.bn:=λl' z e=>by
     obtain ⟨o',Cr⟩:=pV.2;rcases aD.mp e with e|e
     ·rw [e,hh.percents] at z;cases z
     ·rw [aP.mp e,Cr] at z;cases z
    have hJ:mw K H2 h.bn x {now:=n,segs:=segsOf rw}:=by
     refine ⟨f1,D,as,np D hD,f2,s2 _ _ hp,gL.mono λ_ _ z=>z.mono s2,Nd.mono λ_ _ z=>?_⟩;obtain ⟨l',z1,z2,z3,z4⟩:=z;exact ⟨l',np l' z2,z3.mono s2,s2 _ _ z4⟩
    refine ⟨_,rfl,h.a,h.C,h.dx,_,rfl,i1,hh.hc.cl,hh.hc.n7,(by show 7<1000;decide),?_⟩;have H3:=RI.EL (u:=s.unit) (jv:= .ref x) (oj:=some {now:=n,segs:=segsOf rw}) ve ⟨x,rfl,hJ⟩;refine ⟨(by show 1<=sizeLine;decide),λl nl=>?_⟩;obtain ⟨rj,_⟩:=i0 i1 nl;exact q _ l _ (((kj (s1.trans s2)).trans (dH.frame dH.upd (by unfold HA.foot;simp))).trans (kj (aB.new nl))) ((s1.trans s2).free rj) ak (H3.mono (aB.new nl))
end
end Lf
namespace Lf
def o8 (r:List (Int×Int)) (i:Nat) (x:Int):Bool:=decide ((r.getD (i%r.length) (0,0)).1<=x)&&decide (x<=(r.getD (i%r.length) (0,0)).2)
def inR (r:List (Int×Int)) (ns:List Int):Bool:=(bb ns.length).all λi=>o8 r i (ns.getD i 0)
def Pl (K:aa):Sp:=λvs H Q _=> ∃(ln:Addr) (ns:List Int) (v:V) (r:List (Int×Int)),vs= [.ref ln,v]/\H ln=some (.lst (ns.map V.int))/\ym K v r/\(ns= []∨r≠ [])/\r.length<=100/\ns.length<=1000/\∀H',aB H H'->Q (.bl (inR r ns)) H'
section
variable {P:adT} {w:adQ} {K:aa} {mg:Str->Option Value} {base:adO} {t:CA}
def EN:bh ["numbers","ranges","at","number","bounds"] ["numbers","ranges"] (aS (top 33)):=fE
def UO (D:Dn K mg "are_within" (top 33) ["numbers","ranges"]) (b:Bl mg):Fn P w K mg base "are_within" 1 ["numbers","ranges"] (Pl K):=by
 refine D.fn λf fd F=>F.ok EN (λvs H Q E h=>?_) (λdD A outer s H vs Q E hr h=>?_)
 ·obtain ⟨_,_,_,_,rfl,_⟩:=h;rfl
 ·obtain ⟨ln,ns,v,r,rfl,hn,⟨a,ps,rfl,hk,gL⟩,gp,UE,vE,q⟩:=h;refine ⟨_,(am (dw PassesOwn.never rfl (EX rfl b.enumerate (ae (pv 0) ax)) (kH rfl (cH (gn 2 EN.nd) (cH (gn 3 EN.nd) g8)))
    (am (st 4 EN.nd (bi cK (pv 1) (bX Df (pv 2) (i4 b.len (pv 1))) (λ_ _=>rfl)))
   (aA (cF (AN (cD xP (pv 3) (bi cK (pv 4) aE (λ_ _=>rfl)) (bR _)) (C9 (cD A7 (pv 3) (bi cK (pv 4) aE (λ_ _=>rfl)) (bR _)))).pt
    (aA (aY iE))
    bI))))
   (aA (aY iE))),?_⟩
  refine ⟨_,rfl,ln,_,rfl, .of hn,ml (n:=ns.length) (λm σ H'=>(∃v2 v3 v4,σ= [some (.ref ln),some (.ref a),v2,v3,v4])/\aB H H'/\((bb m).all λi=>o8 r i (ns.getD i 0))=true)
   ⟨⟨_,_,_,rfl⟩,aB.refl H,rfl⟩ (λm σ H' hm ⟨_,sm,_⟩=>?_) (λσ H' ⟨_,sm,_⟩=>⟨_, .of (sm _ _ hn),by rw [ab];exact ay _⟩) ?_ ?_⟩
  ·obtain ⟨x,hx⟩: ∃x,ns[m]?=some x:=⟨_,ao hm⟩
   exact ⟨_,_, .of (sm _ _ hn),ir hx⟩
  ·rintro m σ H1 y O0 hm ⟨⟨v2,v3,v4,rfl⟩,s1,cO⟩ ⟨T,z,rfl,hT,rfl,hz⟩;obtain ⟨x,hx,rfl⟩:=ints_get (hz _ (.of (s1 _ _ hn)));have Tz:ns.getD m 0=x:=by rw [bj,hx];rfl
   have s2:aB H1 (upd H1 T (.tup [.int (m:Nat), .int x])):=aB.new hT;have Ql:0<r.length:=by
    rcases gp with e|e
    ·rw [e] at hm;exact absurd hm (eC _)
    ·exact j1.mpr e
   have Yi:m%r.length<r.length:=Nat.mod_lt _ Ql;obtain ⟨bd,hbd⟩: ∃bd,r[m%r.length]?=some bd:=⟨_,ao Yi⟩
   obtain ⟨p,hp,kp⟩:=gL.get hbd;have Y0:r.getD (m%r.length) (0,0)=bd:=by rw [bj,hbd];rfl
   have hlen:((ps.map V.ref).length:Int)=r.length:=by rw [ab,gL.1]
   have good:o8 r m x=true->((bb (m+1)).all λi=>o8 r i (ns.getD i 0))=true:=λe=>by rw [eh,il,cO,gq,Tz,e];rfl
   have bad:o8 r m x=false->inR r ns=false:=λe=>by
    unfold inR;rw [iJ];exact ⟨m,bE.mpr hm,by rw [Tz,e];exact aJ⟩
   refine ⟨T,_,rfl, .of ak,rfl,_,_,rfl,_,_,rfl,rfl,?_⟩;refine ⟨_,rfl,_,rfl,_,rfl,a,_,rfl, .inr hk.sq,_,_,rfl,rfl,?_,a,_,_,_,rfl,rfl,hk.sq,at_of (j:=m%r.length) ?_ (bC hp),?_⟩
   ·show (0:Int)<((ps.map V.ref).length:Nat);omega
   ·show (m:Int)%(((ps.map V.ref).length:Nat):Int)=_;rw [hlen];omega
   ·refine ⟨_,rfl,_,rfl,p,_,0,_,rfl,rfl,kp.sq,at_of (j:=0) rfl rfl,_,_,rfl,rfl,_,rfl,?_⟩;by_cases e1:x<bd.1
    ·refine dT e1 (o0 ?_);exact ck (q _ (s1.trans s2)) (bad (by unfold o8;rw [Y0,decide_eq_false (by omega)];rfl))
    ·refine dF e1 ⟨_,rfl,_,rfl,p,_,1,_,rfl,rfl,kp.sq,at_of (j:=1) rfl rfl,_,_,rfl,rfl,_,rfl,?_⟩;by_cases e2:bd.2<x
     ·refine dT e2 ?_;exact ck (q _ (s1.trans s2)) (bad (by unfold o8;rw [Y0,decide_eq_false (by omega: ¬x<=bd.2),fK]))
     ·refine dF e2 ?_;exact ⟨⟨_,_,_,rfl⟩,s1.trans s2,good (by unfold o8;rw [Y0,decide_eq_true (by omega:bd.1<=x),decide_eq_true (by omega:x<=bd.2)];rfl)⟩
  ·rintro σ H1 ⟨⟨v2,v3,v4,rfl⟩,s1,cO⟩;exact ck (q _ s1) cO
def Sw (K:aa):Sp:=λvs H Q _=> ∃(lw:Addr) (rw:List Int) (lo hi:Int) (v:V) (r:List (Int×Int)),vs= [.ref lw, .int lo, .int hi,v]/\H lw=some (.lst (rw.map V.int))/\ym K v r/\0<r.length/\r.length<=100/\rw.length<=1000/\∀H',aB H H'->Q (.bl (decide (lo<=rw.length)&&(decide ((rw.length:Int)<=hi)&&(decide (rw.length%r.length=0)&&inR r rw)))) H'
def SC:bh ["row","fewest","most","ranges"] ["row","fewest","most","ranges"] (aS (top 34)):=fE
def UK (D:Dn K mg "is_row_right" (top 34) ["row","fewest","most","ranges"]) (b:Bl mg) (G:Fn P w K mg base "are_within" 1 ["numbers","ranges"] (Pl K)):Fn P w K mg base "is_row_right" 2 ["row","fewest","most","ranges"] (Sw K):=by
 refine D.fn λf fd F=>F.ok SC (λvs H Q E h=>?_) (λdD A outer s H vs Q E hr h=>?_)
 ·obtain ⟨_,_,_,_,_,_,rfl,_⟩:=h;rfl
 ·obtain ⟨lw,rw,lo,hi,v,r,rfl,hw,hR,Ql,UE,vE,q⟩:=h;obtain ⟨a,ps,rfl,hk,gL⟩:=id hR;have q0:=q H (aB.refl H);have Qp:((rw.map V.int).length:Int)=rw.length:=by rw [ab]
  have Qq:((ps.map V.ref).length:Int)=r.length:=by rw [ab,gL.1]
  refine ⟨_,(am (cF (AN (cD xP (i4 b.len (pv 0)) (pv 1) (bR _)) (AN (cD A7 (i4 b.len (pv 0)) (pv 2) (bR _)) (C9 (cD va (bX Df (i4 b.len (pv 0)) (i4 b.len (pv 3))) aE (bR _))))).pt
    (aA (aY iE))
    bI)
   (aA (aY (pc G (hr.mono (by decide)) (ae (pv 0) (ae (pv 3) ax)))))),?_⟩
  refine ⟨_,rfl,lw,_,rfl, .inl (.of hw),_,rfl,_,_,rfl,rfl,_,rfl,?_⟩;by_cases e1:(rw.length:Int)<lo
  ·refine dT (by rw [Qp];exact e1) (o0 ?_);exact ck q0 (by rw [decide_eq_false (by omega: ¬lo<=(rw.length:Int))];rfl)
  ·refine dF (by rw [Qp];exact e1) ?_;refine ⟨_,rfl,lw,_,rfl, .inl (.of hw),_,rfl,_,_,rfl,rfl,_,rfl,?_⟩;by_cases e2:hi<(rw.length:Int)
   ·refine dT (by rw [Qp];exact e2) (o0 ?_);exact ck q0 (by rw [decide_eq_false (by omega: ¬(rw.length:Int)<=hi),pz,fK])
   ·refine dF (by rw [Qp];exact e2) ?_;refine ⟨_,rfl,lw,_,rfl, .inl (.of hw),_,rfl,a,_,rfl, .inr hk.sq,_,_,rfl,rfl,?_,rfl,_,rfl,?_⟩
    ·show (0:Int)<((ps.map V.ref).length:Nat);omega
    ·have emod:(((rw.map V.int).length:Nat):Int)%(((ps.map V.ref).length:Nat):Int)=((rw.length%r.length:Nat):Int):=by rw [Qp,Qq];omega
     by_cases e3:rw.length%r.length=0
     ·refine Rw (a:=(((rw.map V.int).length:Nat):Int)%(((ps.map V.ref).length:Nat):Int)) (by rw [emod,e3];rfl) ?_;rw [decide_eq_true (by omega:lo<=(rw.length:Int)),decide_eq_true (by omega:(rw.length:Int)<=hi),decide_eq_true e3] at q;exact ⟨_,rfl,_,rfl,lw,rw,_,r,rfl,hw,hR, .inr (λz=>by rw [z] at Ql;exact absurd Ql (dW _)),UE,vE,λH' s'=>q H' s'⟩
     ·refine neT (a:=(((rw.map V.int).length:Nat):Int)%(((ps.map V.ref).length:Nat):Int)) (by rw [emod];omega) ?_;exact ck q0 (by rw [decide_eq_false e3,pz,fK,fK])
end
end Lf
namespace Lf
section
variable {X:Cx} {x:Str} {pos:Pos}
def MJ {a:Addr} (hm:X.mg x=some (.ref a)) (hg:Gl X x:=by rfl) (hd:(x==("__debug__" :Str))=false:=by decide):PE X (.Name x pos) (tC (.ref a)):=EZ hg hm rfl hd
end
def R7:Int×Int×List (Int×Int):=(5,40,[(0,675),(0,17575),(0,17575),(0,36524),(0,25)])
def R9:Int×Int×List (Int×Int):=(5,5,[(0,9)])
def R12:Int×Int×List (Int×Int):=(0,24,[(0,8),(0,999999999),(0,8)])
def formOf (p:Nat):Option (Int×Int×List (Int×Int)):=if p=7 then some R7 else if p=9 then some R9 else if p=12 then some R12 else none
def Oj (f:Int×Int×List (Int×Int)) (rw:List Int):Bool:=decide (f.1<=rw.length)&&(decide ((rw.length:Int)<=f.2.1)&&(decide (rw.length%f.2.2.length=0)&&inR f.2.2 rw))
def wB (p:Nat) (ns rw:List Int):Bool:=inR (fV.getD p []) ns&&match formOf p with
 |none=>true
 |some f=>Oj f rw
def BD {p:Nat} {f:Int×Int×List (Int×Int)} (h:formOf p=some f):0<f.2.2.length/\f.2.2.length<=100:=by
 unfold formOf at h;by_cases h7:p=7
 ·rw [if_pos h7] at h;cases h;decide
 ·rw [if_neg h7] at h;by_cases h9:p=9
  ·rw [if_pos h9] at h;cases h;decide
  ·rw [if_neg h9] at h;by_cases BB:p=12
   ·rw [if_pos BB] at h;cases h;decide
   ·rw [if_neg BB] at h;cases h
structure Ra (P:adT) (w:adQ) (K:aa) (mg:Str->Option Value):Prop where
 nums: ∃(a:Addr) (ps:List Addr),mg "NUMBERS" =some (.ref a)/\wk K a (ps.map V.ref)/\bQ (λp x=>ym K (.ref p) x) ps fV
 rows: ∃(a:Addr) (kvs:List (Key×V)),mg "ROWS" =some (.ref a)/\KD P w K a kvs/\(∀p:Nat,formOf p=none->cx kvs (az (p:Int))=none)/\∀(p:Nat) (f:Int×Int×List (Int×Int)),formOf p=some f->∃v,cx kvs (az (p:Int))=some v/\B7 K v f
def Txt.tabs {P:adT} {w:adQ} {K:aa} {mg:Str->Option Value} {t:CA} (x:Txt P w K mg t):Ra P w K mg:=by
 constructor
 ·obtain ⟨a,h1,h2⟩:=x.MW;obtain ⟨a',ps,e,h3,h4⟩:=GC h2;cases e;exact ⟨a,ps,h1,h3,h4⟩
 ·obtain ⟨a,v7,v9,CD,h1,h2,h3,h4,h5⟩:=x.rows;refine ⟨a,_,h1,h2,λp hp=>?_,λp f hp=>?_⟩
  ·unfold formOf at hp;by_cases h7:p=7
   ·rw [if_pos h7] at hp;cases hp
   rw [if_neg h7] at hp;by_cases h9:p=9
   ·rw [if_pos h9] at hp;cases hp
   rw [if_neg h9] at hp;by_cases BB:p=12
   ·rw [if_pos BB] at hp;cases hp
   refine sr λy hy e=>?_;simp only [aD,gQ,or_false] at hy;rcases hy with rfl|rfl|rfl
   ·have:=cY e;omega
   ·have:=cY e;omega
   ·have:=cY e;omega
  ·unfold formOf at hp;by_cases h7:p=7
   ·rw [if_pos h7] at hp;cases hp;subst h7;exact ⟨v7,rfl,h3⟩
   rw [if_neg h7] at hp;by_cases h9:p=9
   ·rw [if_pos h9] at hp;cases hp;subst h9;exact ⟨v9,rfl,h4⟩
   rw [if_neg h9] at hp;by_cases BB:p=12
   ·rw [if_pos BB] at hp;cases hp;subst BB;exact ⟨CD,rfl,h5⟩
   ·rw [if_neg BB] at hp;cases hp
def Of:Sp:=λvs H Q _=> ∃(p:Nat) (ln lw:Addr) (ns rw:List Int),vs= [.int p, .ref ln, .ref lw]/\p<18/\H ln=some (.lst (ns.map V.int))/\H lw=some (.lst (rw.map V.int))/\ns.length=(fV.getD p []).length/\rw.length<=1000/\∀H',aB H H'->Q (.bl (wB p ns rw)) H'
section
variable {P:adT} {w:adQ} {K:aa} {mg:Str->Option Value} {base:adO} {t:CA}
def IX:bh ["place","numbers","row","form"] ["place","numbers","row"] (aS (top 35)):=fE
def QK (D:Dn K mg "is_in_range" (top 35) ["place","numbers","row"]) (T:Ra P w K mg) (G1:Fn P w K mg base "are_within" 1 ["numbers","ranges"] (Pl K)) (G2:Fn P w K mg base "is_row_right" 2 ["row","fewest","most","ranges"] (Sw K)):
  Fn P w K mg base "is_in_range" 3 ["place","numbers","row"] Of:=by
 refine D.fn λf fd F=>F.ok IX (λvs H Q E h=>?_) (λdD A outer s H vs Q E hr h=>?_)
 ·obtain ⟨_,_,_,_,_,rfl,_⟩:=h;rfl
 ·obtain ⟨p,ln,lw,ns,rw,rfl,hp,hn,hw,hlen,vE,q⟩:=h;obtain ⟨an,ps,mn,kn,gL⟩:=T.nums;obtain ⟨ar,kvs,mr,kd,no,so⟩:=T.rows;have h18:fV.length=18:=rfl;obtain ⟨r,x8⟩: ∃r,fV[p]?=some r:=⟨_,ao (by rw [h18];exact hp)⟩
  obtain ⟨pa,Yb,hR⟩:=gL.get x8;have er:fV.getD p []=r:=by rw [bj,x8];rfl
  have TV:r.length<=100:=by
   have: ∀r∈fV,r.length<=100:=by decide
   exact this r (aI x8)
  rw [er] at hlen;have RP:wB p ns rw=(inR r ns&&match formOf p with
   |none=>true
   |some f=>Oj f rw):=by unfold wB;rw [er]
  refine ⟨_,(am (cF (ip (eV (pc G1 (hr.mono (by decide)) (ae (pv 1) (ae (bi cK (MJ mn) (pv 0) (λ_ _=>rfl)) ax)))))
    (aA (aY iE))
    bI)
   (am (cF (gc (u6 (pv 0) (MJ mr)))
    (aA (aY iE))
    bI)
   (am (st 3 IX.nd (Jt (MJ mr) (pv 0) (λ_ _=>rfl)))
   (aA (aY (pc G2 (hr.mono (by decide)) (ae (pv 2) (ae (bi cK (pv 3) aE (λ_ _=>rfl)) (ae (bi cK (pv 3) aE (λ_ _=>rfl)) (ae (bi cK (pv 3) aE (λ_ _=>rfl)) ax)))))))))),?_⟩
  refine ⟨_,rfl,_,rfl,an,_,_,_,rfl,rfl,kn.sq,at_of (j:=p) rfl (bC Yb),ln,ns,_,r,rfl,hn,hR,?_,TV,by omega,λH1 s1=>⟨_,rfl,?_⟩⟩
  ·by_cases e:r= []
   ·left;rw [e] at hlen;exact d4 hlen
   ·exact .inr e
  refine Br (λe1=>?_) (λe1=>?_)
  ·exact ck (q H1 s1) (by rw [RP,e1];rfl)
  rw [e1,eN] at RP;refine ⟨_,rfl,ar,kvs,az (p:Int),rfl,kd,rfl,_,rfl,?_⟩;cases ef:formOf p with
  |none=>
   rw [ef] at RP;rw [no p ef];refine o0 ?_;exact ck (q H1 s1) RP
  |some fm=>
   rw [ef] at RP;obtain ⟨v,ev,a,rv,rfl,kf,hRf⟩:=so p fm ef;rw [ev];refine tq ?_;obtain ⟨g1,g2⟩:=BD ef;refine ⟨_,rfl,ar,kvs,az (p:Int),_,rfl,kd,rfl,ev,?_⟩;refine ⟨_,rfl,_,rfl,a,_,0,_,rfl,rfl,kf.sq,at_of (j:=0) rfl rfl,_,rfl,a,_,1,_,rfl,rfl,kf.sq,at_of (j:=1) rfl rfl,_,rfl,a,_,2,_,rfl,rfl,kf.sq,at_of (j:=2) rfl rfl,lw,rw,_,_,_,fm.2.2,rfl,s1 _ _ hw,hRf,g1,g2,vE,λH2 s2=>?_⟩;exact ck (q H2 (s1.trans s2)) (by rw [RP];rfl)
end
end Lf
namespace Lf
open PyVbahaf (shape)
def Jo {p:Int} {n k:Nat} (h:shape p=some (n,k)): ∃(q:Nat) (r:List (Int×Int)),p=(q:Int)/\q<18/\fV[q]?=some r/\r.length=n/\(k=0->formOf q=none)/\(k=1->∃f,formOf q=some f):=by
 rcases jw h with ⟨rfl,rfl,rfl⟩|⟨rfl,rfl,rfl⟩|⟨rfl,rfl,rfl⟩|⟨rfl,rfl,rfl⟩|⟨rfl,rfl,rfl⟩|⟨rfl,rfl,rfl⟩|⟨rfl,rfl,rfl⟩|⟨rfl,rfl,rfl⟩|⟨rfl,rfl,rfl⟩|⟨rfl,rfl,rfl⟩|⟨rfl,rfl,rfl⟩|⟨rfl,rfl,rfl⟩|⟨rfl,rfl,rfl⟩|⟨rfl,rfl,rfl⟩|⟨rfl,rfl,rfl⟩|⟨rfl,rfl,rfl⟩|⟨rfl,rfl,rfl⟩|⟨rfl,rfl,rfl⟩
 ·exact ⟨0,_,rfl,by decide,rfl,rfl,λ_=>rfl,λe=>absurd e (by decide)⟩
 ·exact ⟨1,_,rfl,by decide,rfl,rfl,λ_=>rfl,λe=>absurd e (by decide)⟩
 ·exact ⟨2,_,rfl,by decide,rfl,rfl,λ_=>rfl,λe=>absurd e (by decide)⟩
 ·exact ⟨3,_,rfl,by decide,rfl,rfl,λ_=>rfl,λe=>absurd e (by decide)⟩
 ·exact ⟨4,_,rfl,by decide,rfl,rfl,λ_=>rfl,λe=>absurd e (by decide)⟩
 ·exact ⟨5,_,rfl,by decide,rfl,rfl,λ_=>rfl,λe=>absurd e (by decide)⟩
 ·exact ⟨6,_,rfl,by decide,rfl,rfl,λ_=>rfl,λe=>absurd e (by decide)⟩
 ·exact ⟨7,_,rfl,by decide,rfl,rfl,λe=>absurd e (by decide),λ_=>⟨_,rfl⟩⟩
 ·exact ⟨8,_,rfl,by decide,rfl,rfl,λ_=>rfl,λe=>absurd e (by decide)⟩
 ·exact ⟨9,_,rfl,by decide,rfl,rfl,λe=>absurd e (by decide),λ_=>⟨_,rfl⟩⟩
 ·exact ⟨10,_,rfl,by decide,rfl,rfl,λ_=>rfl,λe=>absurd e (by decide)⟩
 ·exact ⟨11,_,rfl,by decide,rfl,rfl,λ_=>rfl,λe=>absurd e (by decide)⟩
 ·exact ⟨12,_,rfl,by decide,rfl,rfl,λe=>absurd e (by decide),λ_=>⟨_,rfl⟩⟩
 ·exact ⟨13,_,rfl,by decide,rfl,rfl,λ_=>rfl,λe=>absurd e (by decide)⟩
 ·exact ⟨14,_,rfl,by decide,rfl,rfl,λ_=>rfl,λe=>absurd e (by decide)⟩
 ·exact ⟨15,_,rfl,by decide,rfl,rfl,λ_=>rfl,λe=>absurd e (by decide)⟩
 ·exact ⟨16,_,rfl,by decide,rfl,rfl,λ_=>rfl,λe=>absurd e (by decide)⟩
 ·exact ⟨17,_,rfl,by decide,rfl,rfl,λ_=>rfl,λe=>absurd e (by decide)⟩
def ua {l xs ys:List Int} {b:Nat} (h:l.drop b=xs++ys) (hb:b<=l.length):l.drop (b+xs.length)=ys/\(l.drop b).take xs.length=xs/\b+xs.length<=l.length:=by
 refine ⟨?_,?_,?_⟩
 ·rw [<-List.drop_drop,h];simp
 ·rw [h];simp
 ·have:=congrArg wx h;rw [mT,aL] at this;omega
def IJ (K:aa):Sp:=λvs H Q _=> ∃(lc:Addr) (l:List Int) (b:Nat) (p:Int) (nums:List Int) (row:Option (List Int)) (rest:List Int),vs= [.ref lc, .int b]/\iF K H lc (l.map V.int)/\b<=l.length/\my (l.drop b) p nums row rest/\
 ∀(H':Hp) (t ln lw:Addr) (e:Nat),aB H H'->H ln=none->H lw=none->H' t=some (.tup [.int p, .ref ln, .ref lw, .int e])->H' ln=some (.lst (nums.map V.int))->H' lw=some (.lst ((row.getD []).map V.int))->e<=l.length->l.drop e=rest->Q (.ref t) H'
section
variable {P:adT} {w:adQ} {K:aa} {mg:Str->Option Value} {base:adO} {t:CA}
def oE:bh ["calls","begin","place","numbers_end","numbers","row_begin","row_end"] ["calls","begin"] (aS (top 32)):=fE
def Nr (D:Dn K mg "read_call" (top 32) ["calls","begin"]) (b:Bl mg) (T:Ra P w K mg):Fn P w K mg base "read_call" 1 ["calls","begin"] (IJ K):=by
 refine D.fn λf fd F=>F.ok oE (λvs H Q E h=>?_) (λdD A outer s H vs Q E hr h=>?_)
 ·obtain ⟨_,_,_,_,_,_,_,rfl,_⟩:=h;rfl
 ·obtain ⟨lc,l,bg,p,nums,row,rest,rfl,hl,hbl,hC,q⟩:=h;obtain ⟨an,ps,mn,kn,gL⟩:=T.nums;obtain ⟨ar,kvs,mr,kd,no,so⟩:=T.rows;obtain ⟨k,tail,X4,hd,hk⟩: ∃(k:Nat) (tail:List Int),shape p=some (nums.length,k)/\l.drop bg=p::(nums++tail)/\((k=0/\row=none/\tail=rest)∨(k=1/\∃r,row=some r/\tail=(r.length:Int)::(r++rest))):=by
   generalize hg:l.drop bg=dl at hC;cases hC with
   |plain h1 h2=>exact ⟨0,_,by rw [h2];exact h1,rfl, .inl ⟨rfl,rfl,rfl⟩⟩
   |Jd h1 h2=>exact ⟨1,_,by rw [h2];exact h1,rfl, .inr ⟨rfl,_,rfl,rfl⟩⟩
  obtain ⟨pn,r,rfl,abX,x8,hrl,OD,hk1⟩:=Jo X4;obtain ⟨pa,Yb,hR⟩:=gL.get x8;obtain ⟨pa',rh,e',kr,X9⟩:=hR;cases e';have V1:l.drop bg= [(pn:Int)] ++(nums++tail):=hd;obtain ⟨d1,_,d3⟩:=ua V1 hbl;have d1:l.drop (bg+1)=nums++tail:=d1;have d3:bg+1<=l.length:=d3;obtain ⟨c1,c2,c3⟩:=ua d1 d3;have Ux:l[bg]?=some (pn:Int):=by
   have:=congrArg (λz:List Int=>z[0]?) hd;simp only [rq,ow] at this;rw [this];rfl
  have Uj:(((rh.map V.ref).length:Nat):Int)=nums.length:=by rw [ab,X9.1,hrl]
  refine ⟨_,(am (st 2 oE.nd (bi aZ (pv 0) (pv 1) (λ_ _=>rfl)))
   (am (st 3 oE.nd (bX fN (bX fN (pv 1) aE) (i4 b.len (bi cK (MJ mn) (pv 2) (λ_ _=>rfl)))))
   (am (st 4 oE.nd (qC tV (pv 0) (iR (bX fN (pv 1) aE)) (iR (pv 3))))
   (am (cF (gc (u6 (pv 2) (MJ mr)))
    (aA (aY (fM (ae (pv 2) (ae (pv 4) (ae (bK ax) (ae (pv 3) ax)))))))
    bI)
   (am (st 5 oE.nd (bX fN (pv 3) aE))
   (am (st 6 oE.nd (bX fN (pv 5) (bi aZ (pv 0) (pv 3) (λ_ _=>rfl))))
   (aA (aY (fM (ae (pv 2) (ae (pv 4) (ae (qC tV (pv 0) (iR (pv 5)) (iR (pv 6))) (ae (pv 6) ax))))))))))))),?_⟩
  refine ⟨_,rfl,_,rfl,lc,_,_,_,rfl,rfl,hl,at_of (j:=bg) rfl (ir Ux),?_⟩;refine ⟨_,rfl,_,_,rfl,rfl,_,rfl,an,_,_,_,rfl,rfl,kn.sq,at_of (j:=pn) rfl (bC Yb),pa,_,rfl, .inr kr.sq,_,_,rfl,rfl,?_⟩;refine ⟨_,rfl,_,rfl,_,_,rfl,rfl,_,rfl,_,rfl,_,rfl,lc,_,rfl,hl,λln LA=>?_⟩;have QS:((bg:Int)+1+(((rh.map V.ref).length:Nat):Int))=((bg+1+nums.length:Nat):Int):=by rw [Uj];omega
  have YY:rX (l.map V.int) (some ((bg:Int)+1)) (some ((bg:Int)+1+(((rh.map V.ref).length:Nat):Int)))=nums.map V.int:=by
   rw [oR (i:=bg+1) (e:=bg+1+nums.length) (by omega) c3 (by omega) QS,show bg+1+nums.length-(bg+1)=nums.length by omega,c2]
  have s1:aB H (upd H ln (.lst (rX (l.map V.int) (some ((bg:Int)+1)) (some ((bg:Int)+1+(((rh.map V.ref).length:Nat):Int)))))):=aB.new LA;have Uh:(upd H ln (.lst (rX (l.map V.int) (some ((bg:Int)+1)) (some ((bg:Int)+1+(((rh.map V.ref).length:Nat):Int)))))) ln=some (.lst (nums.map V.int)):=by rw [ak,YY]
  refine ⟨_,rfl,ar,kvs,az (pn:Int),rfl,kd,rfl,_,rfl,?_⟩;rcases hk with ⟨rfl,rfl,rfl⟩|⟨rfl,rr,rfl,rfl⟩
  ·rw [no pn (OD rfl)];refine o0 ?_;refine ⟨_,rfl,_,rfl,bv _,λlw E6=>⟨_,rfl,(by show 4<=sizeLine;decide),λtt Rr=>?_⟩⟩;have s2:=aB.new (o:= .lst []) E6;have s3:=aB.new (o:= .tup [.int (pn:Int), .ref ln, .ref lw, .int ((bg:Int)+1+(((rh.map V.ref).length:Nat):Int))]) Rr;exact q _ tt ln lw (bg+1+nums.length) ((s1.trans s2).trans s3) LA (s1.free E6) (by rw [<-QS];exact ak) (s3 _ _ (s2 _ _ Uh)) (s3 _ _ ak) c3 c1
  ·obtain ⟨fm,hfm⟩:=hk1 rfl;obtain ⟨v,ev,_⟩:=so pn fm hfm;rw [ev];refine tq ?_;have c1':l.drop (bg+1+nums.length)= [(rr.length:Int)] ++(rr++rest):=c1;obtain ⟨e1,_,e3⟩:=ua c1' c3;have e1:l.drop (bg+1+nums.length+1)=rr++rest:=e1;have e3:bg+1+nums.length+1<=l.length:=e3;obtain ⟨g1,g2,g3⟩:=ua e1 e3;have YH:l[bg+1+nums.length]?=some (rr.length:Int):=by
    have:=congrArg (λz:List Int=>z[0]?) c1';simp only [rq,ow] at this;rw [this];rfl
   refine ⟨_,rfl,_,_,rfl,rfl,?_⟩;refine ⟨_,rfl,_,rfl,_,rfl,lc,_,_,_,rfl,rfl,s1.seq hl,at_of (j:=bg+1+nums.length) QS (ir YH),_,_,rfl,rfl,?_⟩;refine ⟨_,rfl,_,rfl,_,rfl,_,rfl,_,rfl,_,rfl,_,rfl,lc,_,rfl,s1.seq hl,λlw E6=>⟨_,rfl,(by show 4<=sizeLine;decide),λtt Rr=>?_⟩⟩;have UW:rX (l.map V.int) (some ((bg:Int)+1+(((rh.map V.ref).length:Nat):Int)+1)) (some ((bg:Int)+1+(((rh.map V.ref).length:Nat):Int)+1+(rr.length:Int)))=rr.map V.int:=by
    rw [oR (i:=bg+1+nums.length+1) (e:=bg+1+nums.length+1+rr.length) (by omega) g3 (by omega) (by omega),show bg+1+nums.length+1+rr.length-(bg+1+nums.length+1)=rr.length by omega,g2]
   have s2:=aB.new (o:= .lst (rX (l.map V.int) (some ((bg:Int)+1+(((rh.map V.ref).length:Nat):Int)+1)) (some ((bg:Int)+1+(((rh.map V.ref).length:Nat):Int)+1+(rr.length:Int))))) E6;have s3:=aB.new (o:= .tup [.int (pn:Int), .ref ln, .ref lw, .int ((bg:Int)+1+(((rh.map V.ref).length:Nat):Int)+1+(rr.length:Int))]) Rr;have ee:((bg:Int)+1+(((rh.map V.ref).length:Nat):Int)+1+(rr.length:Int))=((bg+1+nums.length+1+rr.length:Nat):Int):=by omega
   exact q _ tt ln lw (bg+1+nums.length+1+rr.length) ((s1.trans s2).trans s3) LA (s1.free E6) (by rw [<-ee];exact ak) (s3 _ _ (s2 _ _ Uh)) (s3 _ _ (by rw [ak,UW];rfl)) g3 g1
end
end Lf
namespace Lf
open Vbahaf (Call decode inRange fareNumbers within)
def Xe {ns:List Int} (h:ns.length=15): ∃f,ns=fareNumbers f/\decode (dc 0 ns none)=some (.fare f)/\inRange (.fare f)=wB 0 ns []:=by
 match ns,h with
 | [k,c,a,b,w,m,cl,wd,ah,ls,ms,g,o,ki,sg],_=>
  refine ⟨{key:=k,carrier:=c,src:=a,dst:=b,way:=w,amount:=m,classes:=cl,weekdays:=wd,ahead:=ah,leastStay:=ls,mostStay:=ms,group:=g,open_:=o,kinds:=ki,segs:=sg},rfl,rfl,?_⟩;show yr _=(inR (fV.getD 0 []) _&&true)
  rw [cV,aX];have hM:df=1000000000:=rfl;simp [yr,cj,bY,hM,within,inR,fV,o8,bb,bS];omega
def Xd {ns:List Int} (h':ns.length=1): ∃k:Int,ns= [k]/\decode (dc 1 ns none)=some (.unfare k)/\inRange (.unfare k)=wB 1 ns []:=by
 match ns,h' with
 | [k],_=>
  refine ⟨k,rfl,rfl,?_⟩;show inRange (.unfare k)=(inR (fV.getD 1 []) _&&true)
  have hM:df=1000000000:=rfl;rw [cV,aX];simp [inRange,cj,bY,cz,cw,cR,hM,within,inR,fV,o8,bb,bS]
  try omega
def Xc {ns:List Int} (h':ns.length=3): ∃g h y:Int,ns= [g,h,y]/\decode (dc 2 ns none)=some (.combine g h y)/\inRange (.combine g h y)=wB 2 ns []:=by
 match ns,h' with
 | [g,h,y],_=>
  refine ⟨g,h,y,rfl,rfl,?_⟩;show inRange (.combine g h y)=(inR (fV.getD 2 []) _&&true)
  have hM:df=1000000000:=rfl;rw [cV,aX];simp [inRange,cj,bY,cz,cw,cR,hM,within,inR,fV,o8,bb,bS]
  try omega
def Xb {ns:List Int} (h':ns.length=3): ∃a b m:Int,ns= [a,b,m]/\decode (dc 3 ns none)=some (.floor a b m)/\inRange (.floor a b m)=wB 3 ns []:=by
 match ns,h' with
 | [a,b,m],_=>
  refine ⟨a,b,m,rfl,rfl,?_⟩;show inRange (.floor a b m)=(inR (fV.getD 3 []) _&&true)
  have hM:df=1000000000:=rfl;rw [cV,aX];simp [inRange,cj,bY,cz,cw,cR,hM,within,inR,fV,o8,bb,bS]
  try omega
def Xa {ns:List Int} (h':ns.length=2): ∃a m:Int,ns= [a,m]/\decode (dc 4 ns none)=some (.tax a m)/\inRange (.tax a m)=wB 4 ns []:=by
 match ns,h' with
 | [a,m],_=>
  refine ⟨a,m,rfl,rfl,?_⟩;show inRange (.tax a m)=(inR (fV.getD 4 []) _&&true)
  have hM:df=1000000000:=rfl;rw [cV,aX];simp [inRange,cj,bY,cz,cw,cR,hM,within,inR,fV,o8,bb,bS]
  try omega
def W9 {ns:List Int} (h':ns.length=2): ∃k p:Int,ns= [k,p]/\decode (dc 5 ns none)=some (.percent k p)/\inRange (.percent k p)=wB 5 ns []:=by
 match ns,h' with
 | [k,p],_=>
  refine ⟨k,p,rfl,rfl,?_⟩;show inRange (.percent k p)=(inR (fV.getD 5 []) _&&true)
  have hM:df=1000000000:=rfl;rw [cV,aX];simp [inRange,cj,bY,cz,cw,cR,hM,within,inR,fV,o8,bb,bS]
  try omega
def W8 {ns:List Int} (h':ns.length=1): ∃u:Int,ns= [u]/\decode (dc 6 ns none)=some (.unit u)/\inRange (.unit u)=wB 6 ns []:=by
 match ns,h' with
 | [u],_=>
  refine ⟨u,rfl,rfl,?_⟩;show inRange (.unit u)=(inR (fV.getD 6 []) _&&true)
  have hM:df=1000000000:=rfl;rw [cV,aX];simp [inRange,cj,bY,cz,cw,cR,hM,within,inR,fV,o8,bb,bS]
  try omega
def W6 {ns:List Int} (h':ns.length=1): ∃k:Int,ns= [k]/\decode (dc 8 ns none)=some (.price k)/\inRange (.price k)=wB 8 ns []:=by
 match ns,h' with
 | [k],_=>
  refine ⟨k,rfl,rfl,?_⟩;show inRange (.price k)=(inR (fV.getD 8 []) _&&true)
  have hM:df=1000000000:=rfl;rw [cV,aX];simp [inRange,cj,bY,cz,cw,cR,hM,within,inR,fV,o8,bb,bS]
  try omega
def SM {ns:List Int} (h':ns.length=3): ∃k i e:Int,ns= [k,i,e]/\decode (dc 10 ns none)=some (.singles k i e)/\inRange (.singles k i e)=wB 10 ns []:=by
 match ns,h' with
 | [k,i,e],_=>
  refine ⟨k,i,e,rfl,rfl,?_⟩;show inRange (.singles k i e)=(inR (fV.getD 10 []) _&&true)
  have hM:df=1000000000:=rfl;rw [cV,aX];simp [inRange,cj,bY,cz,cw,cR,hM,within,inR,fV,o8,bb,bS]
  try omega
def SL {ns:List Int} (h':ns.length=5): ∃k i e p q:Int,ns= [k,i,e,p,q]/\decode (dc 11 ns none)=some (.pair k i e p q)/\inRange (.pair k i e p q)=wB 11 ns []:=by
 match ns,h' with
 | [k,i,e,p,q],_=>
  refine ⟨k,i,e,p,q,rfl,rfl,?_⟩;show inRange (.pair k i e p q)=(inR (fV.getD 11 []) _&&true)
  have hM:df=1000000000:=rfl;rw [cV,aX];simp [inRange,cj,bY,cz,cw,cR,hM,within,inR,fV,o8,bb,bS]
  try omega
def SJ {ns:List Int} (h':ns.length=1): ∃k:Int,ns= [k]/\decode (dc 13 ns none)=some (.alone k)/\inRange (.alone k)=wB 13 ns []:=by
 match ns,h' with
 | [k],_=>
  refine ⟨k,rfl,rfl,?_⟩;show inRange (.alone k)=(inR (fV.getD 13 []) _&&true)
  have hM:df=1000000000:=rfl;rw [cV,aX];simp [inRange,cj,bY,cz,cw,cR,hM,within,inR,fV,o8,bb,bS]
  try omega
def SI {ns:List Int} (h':ns.length=1): ∃k:Int,ns= [k]/\decode (dc 14 ns none)=some (.count k)/\inRange (.count k)=wB 14 ns []:=by
 match ns,h' with
 | [k],_=>
  refine ⟨k,rfl,rfl,?_⟩;show inRange (.count k)=(inR (fV.getD 14 []) _&&true)
  have hM:df=1000000000:=rfl;rw [cV,aX];simp [inRange,cj,bY,cz,cw,cR,hM,within,inR,fV,o8,bb,bS]
  try omega
def SH {ns:List Int} (h':ns.length=1): ∃k:Int,ns= [k]/\decode (dc 15 ns none)=some (.prefixes k)/\inRange (.prefixes k)=wB 15 ns []:=by
 match ns,h' with
 | [k],_=>
  refine ⟨k,rfl,rfl,?_⟩;show inRange (.prefixes k)=(inR (fV.getD 15 []) _&&true)
  have hM:df=1000000000:=rfl;rw [cV,aX];simp [inRange,cj,bY,cz,cw,cR,hM,within,inR,fV,o8,bb,bS]
  try omega
def SG {ns:List Int} (h':ns.length=0):ns= []/\decode (dc 16 ns none)=some (.fares)/\inRange (.fares)=wB 16 ns []:=by
 match ns,h' with
 | [],_=>exact ⟨rfl,rfl,rfl⟩
def SF {ns:List Int} (h':ns.length=0):ns= []/\decode (dc 17 ns none)=some (.told)/\inRange (.told)=wB 17 ns []:=by
 match ns,h' with
 | [],_=>exact ⟨rfl,rfl,rfl⟩
def gdL {xs ys:List Int} {i:Nat} (h:i<xs.length):(xs++ys).getD i 0=xs.getD i 0:=by
 rw [bj,bj,bV h]
def gdR {xs ys:List Int} (i:Nat):(xs++ys).getD (xs.length+i) 0=ys.getD i 0:=by
 rw [bj,bj,cA (dU _ _),Nat.add_sub_cancel_left]
def FV (r:List (Int×Int)) (i:Nat) (x:Int):o8 r (r.length+i) x=o8 r i x:=by
 unfold o8;rw [Nat.add_mod_left]
def pT {r:List (Int×Int)} {xs ys:List Int} (h:xs.length=r.length):inR r (xs++ys)=(inR r xs&&inR r ys):=by
 unfold inR;rw [aL,List.range_add,il,ng]
 congr 1
 ·rw [aX,bJ,bJ];constructor
  ·intro z i hi;have:=z i hi;rw [gdL (bE.mp hi)] at this;exact this
  ·intro z i hi;rw [gdL (bE.mp hi)];exact z i hi
 ·rw [aX,bJ,bJ];have key: ∀i,o8 r (xs.length+i) ((xs++ys).getD (xs.length+i) 0)=o8 r i (ys.getD i 0):=λi=>by
   rw [gdR,h,FV]
  constructor
  ·intro z i hi;have:=z i hi;show o8 r i (ys.getD i 0)=true;rw [<-key];exact this
  ·intro z i hi;show o8 r (xs.length+i) ((xs++ys).getD (xs.length+i) 0)=true;rw [key];exact z i hi
def Tq: ∀l:List Int,inR [(0,9)] l=l.all (within 0 9)
 | []=>rfl
 |x::l=>by
  have:=pT (r:= [(0,9)]) (xs:= [x]) (ys:=l) rfl;rw [show x::l= [x] ++l from rfl,this,Tq l,il]
  congr 1
def Ox: ∀l:List Int,l.length%3=0->inR [(0,8),(0,999999999),(0,8)] l=(qc l).all λx=>within 0 8 x.1&&cj x.2.1&&within 0 8 x.2.2
 | [],_=>rfl
 | [_],h=>absurd h (by simp)
 | [_,_],h=>absurd h (by simp)
 |a::b::c::l,h=>by
  have:=pT (r:= [(0,8),(0,999999999),(0,8)]) (xs:= [a,b,c]) (ys:=l) rfl;rw [show a::b::c::l= [a,b,c] ++l from rfl,this,Ox l (by simp only [aR] at h;omega)];show _=((within 0 8 a&&cj b&&within 0 8 c)&&(qc l).all _)
  congr 1
  rw [aX];simp [inR,o8,within,cj,bb,bS];omega
def Tr: ∀l:List Int,l.length%5=0->inR [(0,675),(0,17575),(0,17575),(0,36524),(0,25)] l=(yq l).all iA
 | [],_=>rfl
 | [_],h=>absurd h (by simp)
 | [_,_],h=>absurd h (by simp)
 | [_,_,_],h=>absurd h (by simp)
 | [_,_,_,_],h=>absurd h (by simp)
 |a::b::c::d::e::l,h=>by
  have:=pT (r:= [(0,675),(0,17575),(0,17575),(0,36524),(0,25)]) (xs:= [a,b,c,d,e]) (ys:=l) rfl;rw [show a::b::c::d::e::l= [a,b,c,d,e] ++l from rfl,this,Tr l (by simp only [aR] at h;omega)];show _=(iA {carrier:=a,src:=b,dst:=c,day:=d,cls:=e}&&(yq l).all iA)
  congr 1
  rw [aX];simp [inR,o8,within,iA,bY,cz,bb,bS];omega
def W7 {ns l:List Int} (h':ns.length=1): ∃n:Int,ns= [n]/\decode (dc 7 ns (some l))=some (.journey n l)/\inRange (.journey n l)=wB 7 ns l:=by
 match ns,h' with
 | [n],_=>
  refine ⟨n,rfl,rfl,?_⟩;show (cz n&&(decide (5<=l.length)&&(decide (l.length<=40)&&(decide (l.length%5=0)&&(yq l).all iA))))=(inR [(0,36524)] [n] &&(decide ((5:Int)<=l.length)&&(decide ((l.length:Int)<=40)&&(decide (l.length%5=0)&&inR [(0,675),(0,17575),(0,17575),(0,36524),(0,25)] l))))
  have e1:cz n=inR [(0,36524)] [n]:=by
   rw [aX];simp [cz,inR,o8,within,bb,bS]
  have e2:decide (5<=l.length)=decide ((5:Int)<=l.length):=by rw [decide_eq_decide];omega
  have e3:decide (l.length<=40)=decide ((l.length:Int)<=40):=by rw [decide_eq_decide];omega
  rw [e1,e2,e3];by_cases h5:l.length%5=0
  ·rw [Tr l h5]
  ·rw [decide_eq_false h5];simp
def W5 {ns l:List Int} (h':ns.length=0):ns= []/\decode (dc 9 ns (some l))=some (.party l)/\inRange (.party l)=wB 9 ns l:=by
 match ns,h' with
 | [],_=>
  refine ⟨rfl,rfl,?_⟩;show (decide (l.length=5)&&l.all (within 0 9))=(decide ((5:Int)<=l.length)&&(decide ((l.length:Int)<=5)&&(decide (l.length%1=0)&&inR [(0,9)] l)))
  rw [Tq,Nat.mod_one,decide_eq_true rfl,eN];by_cases h5:l.length=5
  ·rw [decide_eq_true h5,decide_eq_true (by omega:(5:Int)<=l.length),decide_eq_true (by omega:(l.length:Int)<=5)];rfl
  ·rw [decide_eq_false h5];by_cases z:(5:Int)<=l.length
   ·rw [decide_eq_false (by omega: ¬(l.length:Int)<=5)];simp
   ·rw [decide_eq_false z];rfl
def SK {ns l:List Int} (h':ns.length=1): ∃k:Int,ns= [k]/\decode (dc 12 ns (some l))=some (.check k l)/\inRange (.check k l)=wB 12 ns l:=by
 match ns,h' with
 | [k],_=>
  refine ⟨k,rfl,rfl,?_⟩;show (cw k&&(decide (l.length<=24)&&(decide (l.length%3=0)&&(qc l).all λx=>within 0 8 x.1&&cj x.2.1&&within 0 8 x.2.2)))=(inR [(0,4)] [k] &&(decide ((0:Int)<=l.length)&&(decide ((l.length:Int)<=24)&&(decide (l.length%3=0)&&inR [(0,8),(0,999999999),(0,8)] l))))
  have e1:cw k=inR [(0,4)] [k]:=by
   rw [aX];simp [cw,inR,o8,within,bb,bS]
  have e3:decide (l.length<=24)=decide ((l.length:Int)<=24):=by rw [decide_eq_decide];omega
  rw [e1,e3,decide_eq_true (by omega:(0:Int)<=l.length),eN];by_cases h5:l.length%3=0
  ·rw [Ox l h5]
  ·rw [decide_eq_false h5];simp
end Lf
namespace Lf
open Vbahaf (Call decode inRange step stepRows withJourney)
open PyVbahaf (shape)
def yG {s:ag} {rows:List (List Int)} {c:Call} (h:decode rows=some c):stepRows s rows=if inRange c=true then step s c else (s,[-2]):=by
 unfold stepRows;rw [h]
inductive Kd (ns rw:List Int) (c:Call):Nat->Prop
 |c0:Dm ns rw c->Kd ns rw c 0
 |c1:vd ns rw c->Kd ns rw c 1
 |c2:Do ns rw c->Kd ns rw c 2
 |c3:y9 ns rw c->Kd ns rw c 3
 |c4:JB ns rw c->Kd ns rw c 4
 |c5:Dj ns rw c->Kd ns rw c 5
 |c6:Dh ns rw c->Kd ns rw c 6
 |c7:Dl ns rw c->Kd ns rw c 7
 |c8 {k}:ns= [k]->c= .price k->Kd ns rw c 8
 |c9:c= .party rw->Kd ns rw c 9
 |c10 {k i e}:ns= [k,i,e]->c= .singles k i e->Kd ns rw c 10
 |c11 {k i e p q}:ns= [k,i,e,p,q]->c= .pair k i e p q->Kd ns rw c 11
 |c12 {k}:ns= [k]->c= .check k rw->Kd ns rw c 12
 |c13 {k}:ns= [k]->c= .alone k->Kd ns rw c 13
 |c14 {k}:ns= [k]->c= .count k->Kd ns rw c 14
 |c15 {k}:ns= [k]->c= .prefixes k->Kd ns rw c 15
 |c16:c= .fares->Kd ns rw c 16
 |c17:c= .told->Kd ns rw c 17
def NL {p:Int} {ns:List Int} {row:Option (List Int)} (h:shape p=some (ns.length,if row.isSome=true then 1 else 0)): ∃(q:Nat) (c:Call),p=(q:Int)/\q<18/\ns.length=(fV.getD q []).length/\decode (dc p ns row)=some c/\inRange c=wB q ns (row.getD [])/\Kd ns (row.getD []) c q:=by
 cases row with
 |none=>
  rcases jw h with ⟨rfl,e,z⟩|⟨rfl,e,z⟩|⟨rfl,e,z⟩|⟨rfl,e,z⟩|⟨rfl,e,z⟩|⟨rfl,e,z⟩|⟨rfl,e,z⟩|⟨rfl,e,z⟩|⟨rfl,e,z⟩|⟨rfl,e,z⟩|⟨rfl,e,z⟩|⟨rfl,e,z⟩|⟨rfl,e,z⟩|⟨rfl,e,z⟩|⟨rfl,e,z⟩|⟨rfl,e,z⟩|⟨rfl,e,z⟩|⟨rfl,e,z⟩
  ·obtain ⟨f,a,b,c⟩:=Xe e;exact ⟨0,_,rfl,by decide,e,b,c, .c0 ⟨f,rfl,a⟩⟩
  ·obtain ⟨k,a,b,c⟩:=Xd e;exact ⟨1,_,rfl,by decide,e,b,c, .c1 ⟨k,rfl,a⟩⟩
  ·obtain ⟨g,g',y,a,b,c⟩:=Xc e;exact ⟨2,_,rfl,by decide,e,b,c, .c2 ⟨g,g',y,rfl,a⟩⟩
  ·obtain ⟨g,g',y,a,b,c⟩:=Xb e;exact ⟨3,_,rfl,by decide,e,b,c, .c3 ⟨g,g',y,rfl,a⟩⟩
  ·obtain ⟨g,g',a,b,c⟩:=Xa e;exact ⟨4,_,rfl,by decide,e,b,c, .c4 ⟨g,g',rfl,a⟩⟩
  ·obtain ⟨g,g',a,b,c⟩:=W9 e;exact ⟨5,_,rfl,by decide,e,b,c, .c5 ⟨g,g',rfl,a⟩⟩
  ·obtain ⟨g,a,b,c⟩:=W8 e;exact ⟨6,_,rfl,by decide,e,b,c, .c6 ⟨g,rfl,a⟩⟩
  ·cases z
  ·obtain ⟨g,a,b,c⟩:=W6 e;exact ⟨8,_,rfl,by decide,e,b,c, .c8 a rfl⟩
  ·cases z
  ·obtain ⟨k,i,e',a,b,c⟩:=SM e;exact ⟨10,_,rfl,by decide,e,b,c, .c10 a rfl⟩
  ·obtain ⟨k,i,e',p,q,a,b,c⟩:=SL e;exact ⟨11,_,rfl,by decide,e,b,c, .c11 a rfl⟩
  ·cases z
  ·obtain ⟨g,a,b,c⟩:=SJ e;exact ⟨13,_,rfl,by decide,e,b,c, .c13 a rfl⟩
  ·obtain ⟨g,a,b,c⟩:=SI e;exact ⟨14,_,rfl,by decide,e,b,c, .c14 a rfl⟩
  ·obtain ⟨g,a,b,c⟩:=SH e;exact ⟨15,_,rfl,by decide,e,b,c, .c15 a rfl⟩
  ·obtain ⟨a,b,c⟩:=SG e;exact ⟨16,_,rfl,by decide,e,b,c, .c16 rfl⟩
  ·obtain ⟨a,b,c⟩:=SF e;exact ⟨17,_,rfl,by decide,e,b,c, .c17 rfl⟩
 |some l=>
  rcases jw h with ⟨rfl,e,z⟩|⟨rfl,e,z⟩|⟨rfl,e,z⟩|⟨rfl,e,z⟩|⟨rfl,e,z⟩|⟨rfl,e,z⟩|⟨rfl,e,z⟩|⟨rfl,e,z⟩|⟨rfl,e,z⟩|⟨rfl,e,z⟩|⟨rfl,e,z⟩|⟨rfl,e,z⟩|⟨rfl,e,z⟩|⟨rfl,e,z⟩|⟨rfl,e,z⟩|⟨rfl,e,z⟩|⟨rfl,e,z⟩|⟨rfl,e,z⟩
  ·cases z
  ·cases z
  ·cases z
  ·cases z
  ·cases z
  ·cases z
  ·cases z
  ·obtain ⟨n,a,b,c⟩:=W7 (l:=l) e;exact ⟨7,_,rfl,by decide,e,b,c, .c7 ⟨n,rfl,a⟩⟩
  ·cases z
  ·obtain ⟨a,b,c⟩:=W5 (l:=l) e;exact ⟨9,_,rfl,by decide,e,b,c, .c9 rfl⟩
  ·cases z
  ·cases z
  ·obtain ⟨n,a,b,c⟩:=SK (l:=l) e;exact ⟨12,_,rfl,by decide,e,b,c, .c12 a rfl⟩
  ·cases z
  ·cases z
  ·cases z
  ·cases z
  ·cases z
def Aq (K:aa):Sp:=λvs H Q _=> ∃(h:HA) (s:ag) (fl:List aq) (p:Int) (ns:List Int) (row:Option (List Int)) (ln lw:Addr),vs= [.ref h.a, .int p, .ref ln, .ref lw]/\ba K H h s fl/\H ln=some (.lst (ns.map V.int))/\H lw=some (.lst ((row.getD []).map V.int))/\shape p=some (ns.length,if row.isSome=true then 1 else 0)/\(row.getD []).length<=1000/\(ln≠h.z/\∃o,H h.z=some o)/\
 ∀(H':Hp) (l:Addr) (xg:List aq),Frame h H H'->H l=none->H' l=some (.lst ((stepRows s (dc p ns row)).2.map V.int))->ba K H' h (stepRows s (dc p ns row)).1 xg->Q (.ref l) H'
end Lf
namespace Lf
open Vbahaf (Call decode inRange step stepRows withJourney)
open PyVbahaf (shape)
structure As (P:adT) (w:adQ) (K:aa) (mg:Str->Option Value) (base:adO):Prop where
 a0:Fn P w K mg base "put_fare" 3 ["house","numbers","row"] (d7 K Dm)
 a1:Fn P w K mg base "take_fare" 1 ["house","numbers","row"] (d7 K vd)
 a2:Fn P w K mg base "put_combination" 1 ["house","numbers","row"] (d7 K Do)
 a3:Fn P w K mg base "put_floor" 2 ["house","numbers","row"] (d7 K y9)
 a4:Fn P w K mg base "put_tax" 2 ["house","numbers","row"] (d7 K JB)
 a5:Fn P w K mg base "put_percent" 1 ["house","numbers","row"] (d7 K Dj)
 a6:Fn P w K mg base "put_unit" 1 ["house","numbers","row"] (d7 K Dh)
 a7:Fn P w K mg base "put_journey" 3 ["house","numbers","row"] (d7 K Dl)
 a8:Fn P w K mg base "tell_price" 10 ["house","numbers","row"] (gb K nB vG)
 a9:Fn P w K mg base "tell_party" 11 ["house","numbers","row"] (gb K y8 pX)
 a10:Fn P w K mg base "tell_singles" 8 ["house","numbers","row"] (gb K Di vF)
 a11:Fn P w K mg base "tell_pair" 8 ["house","numbers","row"] (gb K Dk vH)
 U6:Fn P w K mg base "tell_check" 9 ["house","numbers","row"] (gb K za DS)
 a13:Fn P w K mg base "tell_alone" 9 ["house","numbers","row"] (gb K nB vK)
 a14:Fn P w K mg base "tell_count" 10 ["house","numbers","row"] (gb K nB DR)
 a15:Fn P w K mg base "tell_prefixes" 10 ["house","numbers","row"] (gb K nB Kf)
 a16:Fn P w K mg base "tell_fares" 1 ["house","numbers","row"] (Ez K)
 a17:Fn P w K mg base "tell_journey" 2 ["house","numbers","row"] (gb K JC Ke)
def jt {s:ag} {f:ai->List Int} (h:s.journey=none):withJourney s f=(s,[-3]):=by unfold withJourney;rw [h]
def js {s:ag} {f:ai->List Int} {j:ai} (h:s.journey=some j):withJourney s f=(s,f j):=by unfold withJourney;rw [h]
section
variable {P:adT} {w:adQ} {K:aa} {mg:Str->Option Value} {base:adO} {t:CA}
def fZ {fs:List Addr} {ms:List (Option Value)} {i j:Nat} {x:Str} {ps:List Str} {sp:Sp} (h:fs.map (λf=>some (Value.ref f))=ms) (G:Fn P w K mg base x j ps sp) (hi:ms[i]?=some (mg x)) (hj:j<=11): ∃f,fs[i]?=some f/\Zj P w K mg base 11 ps.length (.ref f) sp:=by
 obtain ⟨a,hm,v⟩:=G.v hj;rw [<-h,br] at hi;cases e:fs[i]? with
 |none=>rw [e] at hi;cases hi
 |some f=>
  rw [e] at hi;have hi:some (Value.ref f)=mg x:=bx hi;rw [hm] at hi;cases hi;exact ⟨_,rfl,v⟩
def Gh:bh ["house","place","numbers","row"] ["house","place","numbers","row"] (aS (top 123)):=fE
def Hl (D:Dn K mg "answer" (top 123) ["house","place","numbers","row"]) (b:Bl mg) (c:Cs mg) (TC:si K mg) (TQ:nX K mg) (G:Fn P w K mg base "is_in_range" 3 ["place","numbers","row"] Of) (A:As P w K mg base):
  Fn P w K mg base "answer" 12 ["house","place","numbers","row"] (Aq K):=by
 refine D.fn λf fd F=>F.ok Gh (λvs H Q E h=>?_) (λdD A' outer s H vs Q E hr h=>?_)
 ·obtain ⟨_,_,_,_,_,_,_,_,rfl,_⟩:=h;rfl
 ·obtain ⟨h,s,fl,p,ns,row,ln,lw,rfl,hh,hn,hw,X4,vE,pV,q⟩:=h;obtain ⟨n,cl,rfl,Yh,hnl,Yz,Z3,kd⟩:=NL X4;obtain ⟨aC,fC,mC,kC,Mj⟩:=TC.tab;obtain ⟨aQ,fQ,mQ,kQ,Lv⟩:=TQ.tab;have hlC:(((fC.map V.ref).length:Nat):Int)=8:=by
   have:=congrArg wx Mj;rw [ab] at this;rw [ab,this];rfl
  rw [yG Yz] at q;refine ⟨_,(am (cF (ip (eV (pc G (hr.mono (by decide)) (ae (pv 1) (ae (pv 2) (ae (pv 3) ax))))))
    (aA (aY (bK (ae (kG c.zO) ax))))
    bI)
   (am (cF (cD xP (pv 1) (i4 b.len (MJ mC)) (bR _))
    (aA (aY (Zu (k:=11) (n:=3) (hr.mono (by decide)) (bi cK (MJ mC) (pv 1) (λ_ _=>rfl)) (ae (pv 0) (ae (pv 2) (ae (pv 3) ax))))))
    bI)
   (am (cF (pM (gc (jM (aT (pv 0) rfl))) (l5 (cD va (pv 1) (kG c.Cc) (bR _)))).pt
    (aA (aY (bK (ae (kG c.Eg) ax))))
    bI)
   (aA (aY (Zu (k:=11) (n:=3) (hr.mono (by decide)) (bi cK (MJ mQ) (bX gd (pv 1) (i4 b.len (MJ mC))) (λ_ _=>rfl)) (ae (pv 0) (ae (pv 2) (ae (pv 3) ax))))))))),?_⟩
  refine ⟨_,rfl,_,rfl,_,rfl,n,ln,lw,ns,_,rfl,Yh,hn,hw,hnl,vE,λH1 s1=>⟨_,rfl,?_⟩⟩;have fH:=hh.mono s1;have sH:=s1 _ _ hn;have xb:=s1 _ _ hw;refine Br (λe1=>?_) (λe1=>?_)
  ·rw [if_neg (by rw [Z3,e1];exact aJ)] at q;exact ⟨(by show 1<=sizeLine;decide),λl nl=>q _ l fl (kj (s1.trans (aB.new nl))) (s1.free nl) ak (fH.mono (aB.new nl))⟩
  have g9:inRange cl=true:=by rw [Z3,e1]
  rw [if_pos g9] at q;generalize hrw:row.getD []=rw at hw xb kd vE;refine ⟨_,rfl,aC,_,rfl, .inr kC.sq,_,_,rfl,rfl,_,rfl,?_⟩;cases kd with
  |c0 ok=>
   refine dT (by omega) ?_;obtain ⟨ff,m7,hv⟩:=fZ (i:=0) Mj A.a0 rfl (by decide);exact ⟨_,rfl,aC,_,_,_,rfl,rfl,kC.sq,at_of (j:=0) rfl (bC m7),_,hv,_,rfl,_,rfl,_,rfl,h,s,fl,ln,lw,ns,rw,cl,rfl,fH,sH,xb,ok,g9,⟨pV.1,pV.2.imp λo e=>s1 _ _ e⟩,λH' l xg fr nl hl hH=>q H' l xg ((kj s1).trans fr) (s1.free nl) hl hH⟩
  |c1 ok=>
   refine dT (by omega) ?_;obtain ⟨ff,m7,hv⟩:=fZ (i:=1) Mj A.a1 rfl (by decide);exact ⟨_,rfl,aC,_,_,_,rfl,rfl,kC.sq,at_of (j:=1) rfl (bC m7),_,hv,_,rfl,_,rfl,_,rfl,h,s,fl,ln,lw,ns,rw,cl,rfl,fH,sH,xb,ok,g9,⟨pV.1,pV.2.imp λo e=>s1 _ _ e⟩,λH' l xg fr nl hl hH=>q H' l xg ((kj s1).trans fr) (s1.free nl) hl hH⟩
  |c2 ok=>
   refine dT (by omega) ?_;obtain ⟨ff,m7,hv⟩:=fZ (i:=2) Mj A.a2 rfl (by decide);exact ⟨_,rfl,aC,_,_,_,rfl,rfl,kC.sq,at_of (j:=2) rfl (bC m7),_,hv,_,rfl,_,rfl,_,rfl,h,s,fl,ln,lw,ns,rw,cl,rfl,fH,sH,xb,ok,g9,⟨pV.1,pV.2.imp λo e=>s1 _ _ e⟩,λH' l xg fr nl hl hH=>q H' l xg ((kj s1).trans fr) (s1.free nl) hl hH⟩
  |c3 ok=>
   refine dT (by omega) ?_;obtain ⟨ff,m7,hv⟩:=fZ (i:=3) Mj A.a3 rfl (by decide);exact ⟨_,rfl,aC,_,_,_,rfl,rfl,kC.sq,at_of (j:=3) rfl (bC m7),_,hv,_,rfl,_,rfl,_,rfl,h,s,fl,ln,lw,ns,rw,cl,rfl,fH,sH,xb,ok,g9,⟨pV.1,pV.2.imp λo e=>s1 _ _ e⟩,λH' l xg fr nl hl hH=>q H' l xg ((kj s1).trans fr) (s1.free nl) hl hH⟩
  |c4 ok=>
   refine dT (by omega) ?_;obtain ⟨ff,m7,hv⟩:=fZ (i:=4) Mj A.a4 rfl (by decide);exact ⟨_,rfl,aC,_,_,_,rfl,rfl,kC.sq,at_of (j:=4) rfl (bC m7),_,hv,_,rfl,_,rfl,_,rfl,h,s,fl,ln,lw,ns,rw,cl,rfl,fH,sH,xb,ok,g9,⟨pV.1,pV.2.imp λo e=>s1 _ _ e⟩,λH' l xg fr nl hl hH=>q H' l xg ((kj s1).trans fr) (s1.free nl) hl hH⟩
  |c5 ok=>
   refine dT (by omega) ?_;obtain ⟨ff,m7,hv⟩:=fZ (i:=5) Mj A.a5 rfl (by decide);exact ⟨_,rfl,aC,_,_,_,rfl,rfl,kC.sq,at_of (j:=5) rfl (bC m7),_,hv,_,rfl,_,rfl,_,rfl,h,s,fl,ln,lw,ns,rw,cl,rfl,fH,sH,xb,ok,g9,⟨pV.1,pV.2.imp λo e=>s1 _ _ e⟩,λH' l xg fr nl hl hH=>q H' l xg ((kj s1).trans fr) (s1.free nl) hl hH⟩
  |c6 ok=>
   refine dT (by omega) ?_;obtain ⟨ff,m7,hv⟩:=fZ (i:=6) Mj A.a6 rfl (by decide);exact ⟨_,rfl,aC,_,_,_,rfl,rfl,kC.sq,at_of (j:=6) rfl (bC m7),_,hv,_,rfl,_,rfl,_,rfl,h,s,fl,ln,lw,ns,rw,cl,rfl,fH,sH,xb,ok,g9,⟨pV.1,pV.2.imp λo e=>s1 _ _ e⟩,λH' l xg fr nl hl hH=>q H' l xg ((kj s1).trans fr) (s1.free nl) hl hH⟩
  |c7 ok=>
   refine dT (by omega) ?_;obtain ⟨ff,m7,hv⟩:=fZ (i:=7) Mj A.a7 rfl (by decide);exact ⟨_,rfl,aC,_,_,_,rfl,rfl,kC.sq,at_of (j:=7) rfl (bC m7),_,hv,_,rfl,_,rfl,_,rfl,h,s,fl,ln,lw,ns,rw,cl,rfl,fH,sH,xb,ok,g9,⟨pV.1,pV.2.imp λo e=>s1 _ _ e⟩,λH' l xg fr nl hl hH=>q H' l xg ((kj s1).trans fr) (s1.free nl) hl hH⟩
  | @c8 k hk hc=>
   subst hk hc;refine dF (by omega) ?_;obtain ⟨ff,m7,hv⟩:=fZ (i:=0) Lv A.a8 rfl (by decide);cases ej:s.journey with
   |none=>
    have es:step s (.price k)=(s,[-3]):=jt ej;rw [es] at q;refine ⟨_,rfl,aH (fH.fh ej) ⟨_,rfl,?_⟩⟩;refine ⟨_,rfl,rfl,_,rfl,?_⟩;refine neT (by omega) ?_;exact ⟨(by show 1<=sizeLine;decide),λl nl=>q _ l fl (kj (s1.trans (aB.new nl))) (s1.free nl) ak (fH.mono (aB.new nl))⟩
   |some j=>
    obtain ⟨ja,fj,_⟩:=fH.dS ej;have es:step s (.price k)=(s,vG s j [k] rw):=js ej;rw [es] at q;refine ⟨_,rfl,aH fj ⟨_,rfl,?_⟩⟩;exact ⟨_,rfl,aC,_,rfl, .inr kC.sq,_,_,rfl,rfl,aQ,_,_,_,rfl,rfl,kQ.sq,at_of (j:=0) (by omega) (bC m7),_,hv,_,rfl,_,rfl,_,rfl,h,s,fl,j,ln,lw,[k],rw,rfl,fH,ej,sH,xb,⟨k,rfl,(cr.mp g9).1,(cr.mp g9).2⟩,λH' l s' nl hl=>q H' l fl (kj (s1.trans s')) (s1.free nl) hl (fH.mono s')⟩
  |c9 hc=>
   subst hc;refine dF (by omega) ?_;obtain ⟨ff,m7,hv⟩:=fZ (i:=1) Lv A.a9 rfl (by decide);have Xp:y8 ns rw:=by
    have g9:(decide (rw.length=5)&&rw.all (cC 0 9))=true:=g9;rw [aU,decide_eq_true_eq,bJ] at g9;exact ⟨g9.1,λx hx=>cr.mp (g9.2 x hx)⟩
   cases ej:s.journey with
   |none=>
    have es:step s (.party rw)=(s,[-3]):=jt ej;rw [es] at q;refine ⟨_,rfl,aH (fH.fh ej) ⟨_,rfl,?_⟩⟩;refine ⟨_,rfl,rfl,_,rfl,?_⟩;refine neT (by omega) ?_;exact ⟨(by show 1<=sizeLine;decide),λl nl=>q _ l fl (kj (s1.trans (aB.new nl))) (s1.free nl) ak (fH.mono (aB.new nl))⟩
   |some j=>
    obtain ⟨ja,fj,_⟩:=fH.dS ej;have es:step s (.party rw)=(s,pX s j ns rw):=js ej;rw [es] at q;refine ⟨_,rfl,aH fj ⟨_,rfl,?_⟩⟩;exact ⟨_,rfl,aC,_,rfl, .inr kC.sq,_,_,rfl,rfl,aQ,_,_,_,rfl,rfl,kQ.sq,at_of (j:=1) (by omega) (bC m7),_,hv,_,rfl,_,rfl,_,rfl,h,s,fl,j,ln,lw,ns,rw,rfl,fH,ej,sH,xb,Xp,λH' l s' nl hl=>q H' l fl (kj (s1.trans s')) (s1.free nl) hl (fH.mono s')⟩
  | @c10 k i e hk hc=>
   subst hk hc;refine dF (by omega) ?_;obtain ⟨ff,m7,hv⟩:=fZ (i:=2) Lv A.a10 rfl (by decide);have S3:Di [k,i,e] rw:=by
    have g9:(cC 0 4 k&&cC 1 8 i&&cC 1 8 e)=true:=g9;simp only [aU,cr] at g9;exact ⟨k,i,e,rfl,g9.1.1,g9.1.2.1,g9.2.1⟩
   cases ej:s.journey with
   |none=>
    have es:step s (.singles k i e)=(s,[-3]):=jt ej;rw [es] at q;refine ⟨_,rfl,aH (fH.fh ej) ⟨_,rfl,?_⟩⟩;refine ⟨_,rfl,rfl,_,rfl,?_⟩;refine neT (by omega) ?_;exact ⟨(by show 1<=sizeLine;decide),λl nl=>q _ l fl (kj (s1.trans (aB.new nl))) (s1.free nl) ak (fH.mono (aB.new nl))⟩
   |some j=>
    obtain ⟨ja,fj,_⟩:=fH.dS ej;have es:step s (.singles k i e)=(s,vF s j [k,i,e] rw):=js ej;rw [es] at q;refine ⟨_,rfl,aH fj ⟨_,rfl,?_⟩⟩;exact ⟨_,rfl,aC,_,rfl, .inr kC.sq,_,_,rfl,rfl,aQ,_,_,_,rfl,rfl,kQ.sq,at_of (j:=2) (by omega) (bC m7),_,hv,_,rfl,_,rfl,_,rfl,h,s,fl,j,ln,lw,[k,i,e],rw,rfl,fH,ej,sH,xb,S3,λH' l s' nl hl=>q H' l fl (kj (s1.trans s')) (s1.free nl) hl (fH.mono s')⟩
  | @c11 k i e p p' hk hc=>
   subst hk hc;refine dF (by omega) ?_;obtain ⟨ff,m7,hv⟩:=fZ (i:=3) Lv A.a11 rfl (by decide);have S3:Dk [k,i,e,p,p'] rw:=by
    have g9:(cC 0 4 k&&cC 1 8 i&&cC 1 8 e&&cC 1 8 p&&cC 1 8 p')=true:=g9;simp only [aU,cr] at g9;exact ⟨k,i,e,p,p',rfl,g9.1.1.1.1,g9.1.1.1.2.1,g9.1.1.2.1,g9.1.2.1,g9.2.1⟩
   cases ej:s.journey with
   |none=>
    have es:step s (.pair k i e p p')=(s,[-3]):=jt ej;rw [es] at q;refine ⟨_,rfl,aH (fH.fh ej) ⟨_,rfl,?_⟩⟩;refine ⟨_,rfl,rfl,_,rfl,?_⟩;refine neT (by omega) ?_;exact ⟨(by show 1<=sizeLine;decide),λl nl=>q _ l fl (kj (s1.trans (aB.new nl))) (s1.free nl) ak (fH.mono (aB.new nl))⟩
   |some j=>
    obtain ⟨ja,fj,_⟩:=fH.dS ej;have es:step s (.pair k i e p p')=(s,vH s j [k,i,e,p,p'] rw):=js ej;rw [es] at q;refine ⟨_,rfl,aH fj ⟨_,rfl,?_⟩⟩;exact ⟨_,rfl,aC,_,rfl, .inr kC.sq,_,_,rfl,rfl,aQ,_,_,_,rfl,rfl,kQ.sq,at_of (j:=3) (by omega) (bC m7),_,hv,_,rfl,_,rfl,_,rfl,h,s,fl,j,ln,lw,[k,i,e,p,p'],rw,rfl,fH,ej,sH,xb,S3,λH' l s' nl hl=>q H' l fl (kj (s1.trans s')) (s1.free nl) hl (fH.mono s')⟩
  | @c12 k hk hc=>
   subst hk hc;refine dF (by omega) ?_;obtain ⟨ff,m7,hv⟩:=fZ (i:=4) Lv A.U6 rfl (by decide);have S3:za [k] rw:=by
    have g9:(cC 0 4 k&&(decide (rw.length<=24)&&(decide (rw.length%3=0)&&(qc rw).all λx=>cC 0 8 x.1&&cj x.2.1&&cC 0 8 x.2.2)))=true:=g9;rw [aU,aU,aU,cr,decide_eq_true_eq,decide_eq_true_eq,bJ] at g9;exact ⟨k,rfl,g9.1,g9.2.1,g9.2.2.1,λx hx=>by
     have:=g9.2.2.2 x hx;rw [aU] at this;exact (cr.mp this.2).1⟩
   cases ej:s.journey with
   |none=>
    have es:step s (.check k rw)=(s,[-3]):=jt ej;rw [es] at q;refine ⟨_,rfl,aH (fH.fh ej) ⟨_,rfl,?_⟩⟩;refine ⟨_,rfl,rfl,_,rfl,?_⟩;refine neT (by omega) ?_;exact ⟨(by show 1<=sizeLine;decide),λl nl=>q _ l fl (kj (s1.trans (aB.new nl))) (s1.free nl) ak (fH.mono (aB.new nl))⟩
   |some j=>
    obtain ⟨ja,fj,_⟩:=fH.dS ej;have es:step s (.check k rw)=(s,DS s j [k] rw):=js ej;rw [es] at q;refine ⟨_,rfl,aH fj ⟨_,rfl,?_⟩⟩;exact ⟨_,rfl,aC,_,rfl, .inr kC.sq,_,_,rfl,rfl,aQ,_,_,_,rfl,rfl,kQ.sq,at_of (j:=4) (by omega) (bC m7),_,hv,_,rfl,_,rfl,_,rfl,h,s,fl,j,ln,lw,[k],rw,rfl,fH,ej,sH,xb,S3,λH' l s' nl hl=>q H' l fl (kj (s1.trans s')) (s1.free nl) hl (fH.mono s')⟩
  | @c13 k hk hc=>
   subst hk hc;refine dF (by omega) ?_;obtain ⟨ff,m7,hv⟩:=fZ (i:=5) Lv A.a13 rfl (by decide);cases ej:s.journey with
   |none=>
    have es:step s (.alone k)=(s,[-3]):=jt ej;rw [es] at q;refine ⟨_,rfl,aH (fH.fh ej) ⟨_,rfl,?_⟩⟩;refine ⟨_,rfl,rfl,_,rfl,?_⟩;refine neT (by omega) ?_;exact ⟨(by show 1<=sizeLine;decide),λl nl=>q _ l fl (kj (s1.trans (aB.new nl))) (s1.free nl) ak (fH.mono (aB.new nl))⟩
   |some j=>
    obtain ⟨ja,fj,_⟩:=fH.dS ej;have es:step s (.alone k)=(s,vK s j [k] rw):=js ej;rw [es] at q;refine ⟨_,rfl,aH fj ⟨_,rfl,?_⟩⟩;exact ⟨_,rfl,aC,_,rfl, .inr kC.sq,_,_,rfl,rfl,aQ,_,_,_,rfl,rfl,kQ.sq,at_of (j:=5) (by omega) (bC m7),_,hv,_,rfl,_,rfl,_,rfl,h,s,fl,j,ln,lw,[k],rw,rfl,fH,ej,sH,xb,⟨k,rfl,(cr.mp g9).1,(cr.mp g9).2⟩,λH' l s' nl hl=>q H' l fl (kj (s1.trans s')) (s1.free nl) hl (fH.mono s')⟩
  | @c14 k hk hc=>
   subst hk hc;refine dF (by omega) ?_;obtain ⟨ff,m7,hv⟩:=fZ (i:=6) Lv A.a14 rfl (by decide);cases ej:s.journey with
   |none=>
    have es:step s (.count k)=(s,[-3]):=jt ej;rw [es] at q;refine ⟨_,rfl,aH (fH.fh ej) ⟨_,rfl,?_⟩⟩;refine ⟨_,rfl,rfl,_,rfl,?_⟩;refine neT (by omega) ?_;exact ⟨(by show 1<=sizeLine;decide),λl nl=>q _ l fl (kj (s1.trans (aB.new nl))) (s1.free nl) ak (fH.mono (aB.new nl))⟩
   |some j=>
    obtain ⟨ja,fj,_⟩:=fH.dS ej;have es:step s (.count k)=(s,DR s j [k] rw):=js ej;rw [es] at q;refine ⟨_,rfl,aH fj ⟨_,rfl,?_⟩⟩;exact ⟨_,rfl,aC,_,rfl, .inr kC.sq,_,_,rfl,rfl,aQ,_,_,_,rfl,rfl,kQ.sq,at_of (j:=6) (by omega) (bC m7),_,hv,_,rfl,_,rfl,_,rfl,h,s,fl,j,ln,lw,[k],rw,rfl,fH,ej,sH,xb,⟨k,rfl,(cr.mp g9).1,(cr.mp g9).2⟩,λH' l s' nl hl=>q H' l fl (kj (s1.trans s')) (s1.free nl) hl (fH.mono s')⟩
  | @c15 k hk hc=>
   subst hk hc;refine dF (by omega) ?_;obtain ⟨ff,m7,hv⟩:=fZ (i:=7) Lv A.a15 rfl (by decide);cases ej:s.journey with
   |none=>
    have es:step s (.prefixes k)=(s,[-3]):=jt ej;rw [es] at q;refine ⟨_,rfl,aH (fH.fh ej) ⟨_,rfl,?_⟩⟩;refine ⟨_,rfl,rfl,_,rfl,?_⟩;refine neT (by omega) ?_;exact ⟨(by show 1<=sizeLine;decide),λl nl=>q _ l fl (kj (s1.trans (aB.new nl))) (s1.free nl) ak (fH.mono (aB.new nl))⟩
   |some j=>
    obtain ⟨ja,fj,_⟩:=fH.dS ej;have es:step s (.prefixes k)=(s,Kf s j [k] rw):=js ej;rw [es] at q;refine ⟨_,rfl,aH fj ⟨_,rfl,?_⟩⟩;exact ⟨_,rfl,aC,_,rfl, .inr kC.sq,_,_,rfl,rfl,aQ,_,_,_,rfl,rfl,kQ.sq,at_of (j:=7) (by omega) (bC m7),_,hv,_,rfl,_,rfl,_,rfl,h,s,fl,j,ln,lw,[k],rw,rfl,fH,ej,sH,xb,⟨k,rfl,(cr.mp g9).1,(cr.mp g9).2⟩,λH' l s' nl hl=>q H' l fl (kj (s1.trans s')) (s1.free nl) hl (fH.mono s')⟩
  |c16 hc=>
   subst hc;refine dF (by omega) ?_;obtain ⟨ff,m7,hv⟩:=fZ (i:=8) Lv A.a16 rfl (by decide);cases ej:s.journey with
   |none=>
    refine ⟨_,rfl,aH (fH.fh ej) ⟨_,rfl,?_⟩⟩;refine ⟨_,rfl,rfl,_,rfl,?_⟩;refine Rw rfl ?_;exact ⟨_,rfl,aC,_,rfl, .inr kC.sq,_,_,rfl,rfl,aQ,_,_,_,rfl,rfl,kQ.sq,at_of (j:=8) (by omega) (bC m7),_,hv,_,rfl,_,rfl,_,rfl,h,s,fl,ln,lw,rfl,fH,λH' l s' nl hl=>q H' l fl (kj (s1.trans s')) (s1.free nl) hl (fH.mono s')⟩
   |some j=>
    obtain ⟨ja,fj,_⟩:=fH.dS ej;refine ⟨_,rfl,aH fj ⟨_,rfl,?_⟩⟩;exact ⟨_,rfl,aC,_,rfl, .inr kC.sq,_,_,rfl,rfl,aQ,_,_,_,rfl,rfl,kQ.sq,at_of (j:=8) (by omega) (bC m7),_,hv,_,rfl,_,rfl,_,rfl,h,s,fl,ln,lw,rfl,fH,λH' l s' nl hl=>q H' l fl (kj (s1.trans s')) (s1.free nl) hl (fH.mono s')⟩
  |c17 hc=>
   subst hc;refine dF (by omega) ?_;obtain ⟨ff,m7,hv⟩:=fZ (i:=9) Lv A.a17 rfl (by decide);cases ej:s.journey with
   |none=>
    have es:step s .told=(s,[-3]):=jt ej;rw [es] at q;refine ⟨_,rfl,aH (fH.fh ej) ⟨_,rfl,?_⟩⟩;refine ⟨_,rfl,rfl,_,rfl,?_⟩;refine neT (by omega) ?_;exact ⟨(by show 1<=sizeLine;decide),λl nl=>q _ l fl (kj (s1.trans (aB.new nl))) (s1.free nl) ak (fH.mono (aB.new nl))⟩
   |some j=>
    obtain ⟨ja,fj,_⟩:=fH.dS ej;have es:step s .told=(s,Ke s j ns rw):=js ej;rw [es] at q;refine ⟨_,rfl,aH fj ⟨_,rfl,?_⟩⟩;exact ⟨_,rfl,aC,_,rfl, .inr kC.sq,_,_,rfl,rfl,aQ,_,_,_,rfl,rfl,kQ.sq,at_of (j:=9) (by omega) (bC m7),_,hv,_,rfl,_,rfl,_,rfl,h,s,fl,j,ln,lw,ns,rw,rfl,fH,ej,sH,xb,trivial,λH' l s' nl hl=>q H' l fl (kj (s1.trans s')) (s1.free nl) hl (fH.mono s')⟩
end
end Lf
namespace Lf
open Vbahaf (Call decode inRange step stepRows withJourney price)
open PyVbahaf (shape)
def Gu {s:ag} {j:ai} {k:Int} {r:List Int} (h8:j.segs.length<=8) (h:price s j k=some r):r.length<=30:=by
 have C:=lB s j k;cases e:iP s j k (lE j.segs.length) (2^j.segs.length-1) with
 |none=>
  have:=pO C h8 (ay _) e;rw [ly,h] at this;cases this
 |some r0=>
  obtain ⟨t,ht⟩:=vD (pF s j k) e;have hp:=pN C h8 (ay _) e ht;rw [ly,h] at hp;cases hp;obtain ⟨a,b,rfl⟩:=pD s j k _ _ _ e;have:=yB C h8 ht;rw [aL];show 2+t.length<=30;omega
def IB {s:ag} (ok:kM s) (c:Call):(step s c).2.length<=1000:=by
 have wj: ∀f:ai->List Int,(∀j,s.journey=some j->(f j).length<=1000)->(withJourney s f).2.length<=1000:=λf hf=>by
  unfold withJourney;cases e:s.journey with
  |none=>exact (by decide:1<=1000)
  |some j=>exact hf j e
 cases c with
 |fare f=>
  show (if _ then _ else if _ then _ else _:ag×List Int).2.length<=1000;split
  ·exact (by decide:1<=1000)
  ·split<;>exact (by decide:1<=1000)
 |unfare k=>
  show (if _ then _ else _:ag×List Int).2.length<=1000;split<;>exact (by decide:1<=1000)
 |combine g h y=>exact (by decide:1<=1000)
 |floor a b m=>
  show (if _ then _ else if _ then _ else _:ag×List Int).2.length<=1000;split
  ·exact (by decide:1<=1000)
  ·split<;>exact (by decide:1<=1000)
 |tax a m=>
  show (if _ then _ else _:ag×List Int).2.length<=1000;split<;>exact (by decide:1<=1000)
 |percent k p=>exact (by decide:1<=1000)
 |unit u=>exact (by decide:1<=1000)
 |journey n l=>
  show (if _ then _ else _:ag×List Int).2.length<=1000;split<;>exact (by decide:1<=1000)
 |price k=>
  refine wj _ λj hj=>?_;cases e:price s j k with
  |none=>simp [e]
  |some r=>
   have:=Gu (ok.jo j hj).ge e;simp [e];omega
 |party l=>
  refine wj _ λj hj=>?_;show (if _ then _ else _:List Int).length<=1000;split<;>simp
 |singles k i e=>
  refine wj _ λj hj=>?_;show (if _ then _ else _:List Int).length<=1000;split
  ·simp
  ·simp only [aR];have h1:(FQ ((s.fares.filter λf=>N3 j k f (mR j (i-1).toNat e.toNat)).map λf=> [RT s k f (mR j (i-1).toNat e.toNat),f.key])).length<=60:=by
    rw [(gJ _).length_eq,ab];exact aV (aN _ _) ok.fl
   have h2:=gW (f:=λy:List Int=>y) (k:=2) (l:=FQ ((s.fares.filter λf=>N3 j k f (mR j (i-1).toNat e.toNat)).map λf=> [RT s k f (mR j (i-1).toNat e.toNat),f.key])) λr hr=>by
    obtain ⟨f,_,rfl⟩:=aj.mp ((gJ _).mem_iff.mp hr);exact ay _
   omega
 |pair k i e p q=>
  refine wj _ λj hj=>?_;show (if _ then _ else _:List Int).length<=1000;split
  ·simp
  ·cases z:Vbahaf.bestPair s j k (mR j (i-1).toNat e.toNat) (mR j (p-1).toNat q.toNat) with
   |none=>simp [z]
   |some r=>
    obtain ⟨a,b,c,rfl⟩:=nT z;simp [z]
 |check k l=>exact wj _ λj hj=>(by show 3<=1000;decide)
 |alone k=>
  refine wj _ λj hj=>?_;cases z:Vbahaf.alone (Vbahaf.allSingles s j k) j.segs.length 9 0 with
  |none=>simp [z]
  |some r=>simp [z]
 |count k=>exact wj _ λj hj=>(by show 2<=1000;decide)
 |prefixes k=>
  refine wj _ λj hj=>?_;have:=(ok.jo j hj).ge;simp only [aR,ab,bZ];omega
 |fares=>
  show (0::(s.fares.length:Int)::s.fares.flatMap j4).length<=1000;have h1:=gW (f:=j4) (k:=15) (l:=s.fares) λ_ _=>ay _;have:=ok.fl;simp only [aR];omega
 |told=>
  refine wj _ λj hj=>?_;have:=(ok.jo j hj).ge;have h1:=gW (f:=λg:bT=> [g.carrier,g.src,g.dst,g.day,g.cls]) (k:=5) (l:=j.segs) λ_ _=>ay _;simp only [aR];omega
def Jc {s:ag} (ok:kM s) (c:List (List Int)):(stepRows s c).2.length<=1000:=by
 unfold stepRows;cases decode c with
 |none=>exact (by decide:1<=1000)
 |some x=>
  show (if inRange x=true then step s x else (s,[-2])).2.length<=1000;split
  ·exact IB ok x
  ·exact (by decide:1<=1000)
end Lf
namespace Lf
open Vbahaf (Call decode inRange step stepRows)
open PyVbahaf (shape)
def C8 {u:List Int} (h:yp u=true):u.length<=1000:=by
 unfold yp at h;rw [aU,decide_eq_true_eq] at h;omega
def OU {c:List (List Int)} (h:lK c=true): ∀r∈c,r.length<=1000:=by
 unfold lK at h;split at h
 all_goals intro r hr
 all_goals first
  |(rw [aP.mp hr];simp only [aR,cU];omega)
  |(rcases aD.mp hr with e|e
    ·rw [e];simp only [aR,cU];omega
    ·rw [aP.mp e];first|exact C8 h|exact C8 (pA.mp h).2)
  |(rw [aU,bJ] at h;exact C8 (h.2 r hr))
abbrev toldOf (s:ag) (cs:List (List (List Int))):List Int:=je (i7 fu s cs)
def IG (K:aa):Sp:=λvs H Q _=> ∃(lc:Addr) (l:List Int) (cs:List (List (List Int))),vs= [.ref lc]/\iF K H lc (l.map V.int)/\Reads l cs/\cs.length<=150/\(∀c∈cs, ∀r∈c,r.length<=1000)/\
 ∀(H':Hp) (la:Addr),H' la=some (.lst ((toldOf eG cs).map V.int))->Q (.ref la) H'
def _root_.L2.iF.fr {K:aa} {H H':Hp} {a:Addr} {xs:List V} (h:iF K H a xs) (k: ∀o,H a=some o->H' a=some o):iF K H' a xs:=by
 rcases h with (h|⟨o,h⟩)|h
 ·exact .inl (.inl (k _ h))
 ·exact .inl (.inr ⟨o,k _ h⟩)
 ·exact .inr h
def my.shp {l:List Int} {p:Int} {ns:List Int} {row:Option (List Int)} {rest:List Int} (h:my l p ns row rest):shape p=some (ns.length,if row.isSome=true then 1 else 0):=by
 cases h with
 |plain h1 h2=>rw [h2];exact h1
 |Jd h1 h2=>rw [h2];exact h1
def Ps {p:Int} {ns:List Int} {row:Option (List Int)} (h: ∀r∈dc p ns row,r.length<=1000):(row.getD []).length<=1000:=by
 cases row with
 |none=>exact bv _
 |some r=>exact h r (by unfold dc;simp)
section
variable {K:aa} {H H':Hp} {h:HA} {s:ag} {fl:List aq}
def ba.rez (x:ba K H h eG []) (z:Addr):ba K H {h with z:=z} eG []:=by
 obtain ⟨ok,hc,perm,⟨jv,i1,i2⟩,⟨gO,f1,f2,f3⟩,g,fo,tx,p,n1,n2⟩:=x;exact ⟨ok,hc,perm,⟨jv,i1,i2⟩,⟨gO,f1,f2,⟨f3.1,λi a b ha=>by cases ha⟩⟩,g,fo,tx,p,n1,n2⟩
def ba.Y6 (x:ba K H h s fl) {xs:List V} (hz:H h.z=some (.lst xs)) (nf:h.z∉h.foot) (b:dH h.z H H'):ba K H' h s fl:=by
 have ho: ∀C dx fs,HO.lst xs≠ .ins C dx fs:=λ_ _ _ z=>nomatch z;have nm: ∀c∈h.foot,c≠h.z:=λc hc e=>nf (e▸hc);unfold HA.foot at nm;simp only [aD,gQ,or_false] at nm;obtain ⟨ok,hc,perm,⟨jv,i1,i2⟩,⟨gO,f1,f2,f3⟩,⟨kt,t1,t2⟩,⟨ko,o1,o2⟩,⟨kx,x1,x2⟩,p,n1,n2⟩:=x;refine ⟨ok,hc,perm,⟨jv,b _ _ (nm _ (by simp)) i1,?_⟩,⟨gO,b _ _ (nm _ (by simp)) f1,f2.mono λ_ _ z=>z.but hz ho b,f3.mono λ_ _ z=>?_⟩,⟨kt,b _ _ (nm _ (by simp)) t1,t2⟩,⟨ko,b _ _ (nm _ (by simp)) o1,o2⟩,⟨kx,b _ _ (nm _ (by simp)) x1,x2⟩,b _ _ (nm _ (by simp)) p,n1,n2⟩
 ·cases q:s.journey with
  |none=>rw [q] at i2;exact i2
  |some j=>
   rw [q] at i2;obtain ⟨ja,z1,now,l,as,h0,h1,h2,h3,h4⟩:=i2;have nz: ∀l',l'∉h.bn->l'≠h.z:=λl' n e=>n (by rw [e];unfold HA.bn;simp);exact ⟨ja,z1,now.but hz ho b,l,as,h0,h1.but hz ho b,b _ _ (nz _ h0) h2,h3.mono λ_ _ z=>z.but hz ho b,h4.mono λ_ _ ⟨l',z0,z1,z2⟩=>⟨l',z0,z1.but hz ho b,b _ _ (nz _ z0) z2⟩⟩
 ·obtain ⟨l,h0,h1,h2⟩:=z;exact ⟨l,h0,h1.but hz ho b,b _ _ h0 h2⟩
def ba.kinds (x:ba K H h s fl): ∀b∈h.foot, ∃o,H b=some o/\∀ts,o≠ .tup ts:=λb hb=>by
 obtain ⟨jv,i1,_⟩:=x.inst;obtain ⟨_,f1,_⟩:=x.fares;obtain ⟨_,t1,_⟩:=x.groups;obtain ⟨_,o1,_⟩:=x.floors;obtain ⟨_,x1,_⟩:=x.taxes;unfold HA.foot at hb;simp only [aD,gQ,or_false] at hb;rcases hb with rfl|rfl|rfl|rfl|rfl|rfl
 ·exact ⟨_,i1,λ_ z=>nomatch z⟩
 ·exact ⟨_,f1,λ_ z=>nomatch z⟩
 ·exact ⟨_,t1,λ_ z=>nomatch z⟩
 ·exact ⟨_,o1,λ_ z=>nomatch z⟩
 ·exact ⟨_,x1,λ_ z=>nomatch z⟩
 ·exact ⟨_,x.percents,λ_ z=>nomatch z⟩
end
section
variable {P:adT} {w:adQ} {K:aa} {mg:Str->Option Value} {base:adO} {t:CA}
def hX:bh ["calls","house","answered","begin","call","told"] ["calls"] (aS (top 124)):=fE
def Dg {f:Addr} {fd:ad7} (F:Lk K "answers" "answers" (top 124) f fd) (b:Bl mg) (G1:Cl P w K mg base "House" t.i6 1 ["self"] (EF K t.i6)) (G2:Fn P w K mg base "read_call" 1 ["calls","begin"] (IJ K)) (G3:Fn P w K mg base "answer" 12 ["house","place","numbers","row"] (Aq K)):
  kO P w K mg base Lm 13 f fd ["calls"] (IG K):=by
 refine F.ok hX (λvs H Q E h=>?_) (λdD A outer s H vs Q E hr h=>?_)
 ·obtain ⟨_,_,_,rfl,_⟩:=h;rfl
 ·obtain ⟨lc,l,cs,rfl,hl,hR,YN,TN,q⟩:=h;have hz:sizeLine=16777216:=adY;refine ⟨_,(am (st 1 hX.nd (Xn G1 (hr.mono (by decide))))
   (am (st 2 hX.nd (bK ax))
   (am (st 3 hX.nd aE)
   (am (u0 PassesOwn.never (cD xP (pv 3) (i4 b.len (pv 0)) (bR _))
    (am (st 4 hX.nd (pc G2 (hr.mono (by decide)) (ae (pv 0) (ae (pv 3) ax))))
   (am (st 5 hX.nd (pc G3 (hr.mono (by decide)) (ae (pv 1) (ae (bi cK (pv 4) aE (λ_ _=>rfl)) (ae (bi cK (pv 4) aE (λ_ _=>rfl)) (ae (bi cK (pv 4) aE (λ_ _=>rfl)) ax))))))
   (am (eO (BJ (pv 2) (i4 b.len (pv 5))))
   (am (eO (D0 (pv 2) (pv 5)))
   (aA (st 3 hX.nd (bi cK (pv 4) aE (λ_ _=>rfl)))))))))
   (aA (aY (pv 2))))))),?_⟩
  refine λx dx nx tj PP=>⟨x,dx,rfl,ak,λH1 h hx b1 hh Ur=>⟨rfl,?_⟩⟩
  have s1:aB H H1:=dH.same (dY nx tj) nx b1;have ff: ∀b∈h.foot,H b=none:=λb hb=>by
   by_cases e:b=x
   ·rw [e];exact nx
   ·exact (dY nx tj).free (Ur b hb e)
  have ZD: ∀o,H lc=some o->lc∉h.foot:=λo ho z=>by rw [ff lc z] at ho;cases ho
  have XB: ∀la,H1 la=none->∀o,H lc=some o->lc≠la:=λla Dr o e z=>by
   have:=s1 _ _ e;rw [z,Dr] at this;cases this
  subst hx;refine ⟨bv _,λla Dr=>?_⟩;have XC:la∉h.foot:=λz=>by
   obtain ⟨o,e,_⟩:=hh.kinds la z;rw [Dr] at e;cases e
  have ZE:=XB la Dr;have s2:aB H1 (upd H1 la (.lst [])):=aB.new Dr;obtain ⟨g,ga,gz,gf,hg⟩: ∃g:HA,g.a=h.a/\la=g.z/\g.foot=h.foot/\ba K (upd H1 la (.lst [])) g eG []:=⟨{h with z:=la},rfl,rfl,rfl,(hh.mono s2).rez la⟩
  rw [<-gf] at XC ZD;rw [<-ga];refine ⟨λk σ H'=> ∃(s:ag) (fl:List aq) (bg:Nat) (QZ:List (List (List Int))) (dn:List Int),k=QZ.length/\(∃v4 v5,σ= [some (.ref lc),some (.ref g.a),some (.ref la),some (.int bg),v4,v5])/\ba K H' g s fl/\(∀o,H lc=some o->H' lc=some o)/\bg<=l.length/\Reads (l.drop bg) QZ/\H' la=some (.lst (dn.map V.int))/\toldOf eG cs=dn++toldOf s QZ/\QZ.length<=150/\dn.length+1001*QZ.length<=1001*150/\∀c∈QZ, ∀r∈c,r.length<=1000,
   ⟨cs.length,eG,[],0,cs,[],rfl,⟨_,_,rfl⟩,hg,λo e=>s2 _ _ (s1 _ _ e),bv _,by simpa using hR,ak,rfl,YN,by simp only [cU];omega,TN⟩,?_⟩
  rintro k σ H2 ⟨s,fl,bg,QZ,dn,rfl,⟨v4,v5,rfl⟩,RI,Ct,hbg,V6,V5,OB,UB,Yy,JU⟩;have Uv:=hl.fr Ct;have Ui:(((l.map V.int).length:Nat):Int)=l.length:=by rw [ab]
  refine ⟨_,rfl,_,rfl,lc,_,rfl, .inl Uv,_,_,rfl,rfl,_,rfl,?_⟩;by_cases jd:bg<l.length
  ·refine dT (by rw [Ui];omega) ?_;generalize Z9:l.drop bg=dl at V6;cases V6 with
   |nil=>
    have:=congrArg wx Z9;rw [mT,cU] at this;omega
   | @cons _ p ns row rest RQ hC hR3=>
    refine ⟨λeX H'=> ∃(s:ag) (fl:List aq) (bg:Nat) (dn:List Int),(∃v4 v5,eX= [some (.ref lc),some (.ref g.a),some (.ref la),some (.int bg),v4,v5])/\ba K H' g s fl/\(∀o,H lc=some o->H' lc=some o)/\bg<=l.length/\Reads (l.drop bg) RQ/\H' la=some (.lst (dn.map V.int))/\toldOf eG cs=dn++toldOf s RQ/\dn.length+1001*RQ.length<=1001*150,
     λeX H' ⟨s',xg,bg',dn',z1,z2,z3,z4,z5,z6,z7,z8⟩=>⟨RQ.length,by rw [aR];omega,s',xg,bg',RQ,dn',rfl,z1,z2,z3,z4,z5,z6,z7,by rw [aR] at UB;omega,z8,λc hc=>JU c (aF _ hc)⟩,?_⟩
    have X6:=Ps (JU _ aM);refine ⟨_,rfl,_,rfl,lc,l,bg,p,ns,row,rest,rfl,Uv,hbg,by rw [Z9];exact hC,λH3 tt ln lw e s3 LA E6 OA rl Qp he JV=>?_⟩;refine ⟨_,rfl,_,rfl,tt,_,0,_,rfl,rfl, .of OA,at_of (j:=0) rfl rfl,_,rfl,tt,_,1,_,rfl,rfl, .of OA,at_of (j:=1) rfl rfl,_,rfl,tt,_,2,_,rfl,rfl, .of OA,at_of (j:=2) rfl rfl,g,s,fl,p,ns,row,ln,lw,rfl,RI.mono s3,rl,Qp,hC.shp,X6,⟨λe=>?_,_,gz▸s3 _ _ V5⟩,λH4 lt fl4 fr PN Ue hh4=>?_⟩
    ·rw [e, <-gz,V5] at LA;cases LA
    have ntf:tt∉g.foot:=λz=>by
     obtain ⟨o,e1,e2⟩:=(RI.mono s3).kinds tt z;rw [OA] at e1;cases e1;exact e2 _ rfl
    have ha3:=s3 _ _ V5;have V4:=fr _ _ XC ha3;have hl4: ∀o,H lc=some o->H4 lc=some o:=λo e=>fr _ _ (ZD o e) (s3 _ _ (Ct o e));have nta:lt≠la:=(aG ha3 PN).symm;have hlen:=Jc RI.ok (dc p ns row);have TK:=fr _ _ ntf OA;refine ⟨_,rfl, .inl ⟨rfl,_, .of V4⟩,_,rfl,lt,_,rfl, .inl (.of Ue),la,_,_,rfl,rfl,V4,?_,?_⟩
    ·rw [ab];rw [aR] at Yy;omega
    ·have s5:dH la H4 (upd H4 la (.lst (dn.map V.int++ [.int ((((stepRows s (dc p ns row)).2.map V.int).length:Nat):Int)]))):=dH.upd;refine ⟨_,rfl, .inl ⟨rfl,_, .of ak⟩,_,rfl,la,lt,_,_,rfl,rfl,ak,bp Ue nta,?_,?_⟩
     ·rw [aL,ab,ab,gu];rw [aR] at Yy;omega
     ·have Rr:tt≠la:=cg TK V4 λz=>nomatch z;have bz: ∀xs:List V,ba K (upd H4 la (.lst xs)) g (stepRows s (dc p ns row)).1 fl4:=λxs=>by
       subst gz;exact hh4.Y6 V4 XC dH.upd
      refine ⟨_,rfl,tt,_,3,_,rfl,rfl, .of (bp (bp TK Rr) Rr),at_of (j:=3) rfl rfl,?_⟩;refine ⟨(stepRows s (dc p ns row)).1,fl4,e,dn++(((stepRows s (dc p ns row)).2.length:Nat):Int)::(stepRows s (dc p ns row)).2,⟨_,_,rfl⟩,?_,λo ho=>bp (bp (hl4 o ho) (ZE o ho)) (ZE o ho),he,by rw [JV];exact hR3,?_,?_,?_⟩
      ·rw [L4];exact bz _
      ·rw [ak,aO,be,ab,cq];rfl
      ·rw [OB,cq];exact congrArg (dn++ ·) (AV s (dc p ns row) RQ)
      ·rw [aL,aR];rw [aR] at Yy;omega
  ·refine dF (by rw [Ui];omega) ?_;have e0:l.drop bg= []:=iI (by omega);rw [e0] at V6;cases V6 with
   |nil=>
    refine ⟨_,rfl,q H2 la ?_⟩;rw [OB,V5];show _=some (HO.lst ((dn++ []).map V.int));rw [di]
   |cons hC _=>cases hC
end
end Lf
namespace Lf
section
variable {P:adT} {w:adQ} {K:aa} {mg:Str->Option Value} {base:adO} {t:CA}
def ok_all (X:Txt P w K mg t) {f:Addr} {fd:ad7} (F:Lk K "answers" "answers" (top 124) f fd):kO P w K mg base Lm 13 f fd ["calls"] (IG K):=by
 have b:=X.bl;have c:=X.cs;have d:=X.ds;have k:=X.ks;have T:=X.tabs;have digit:=KL (P:=P) (w:=w) (base:=base) d.G7;have takes:=Kr (P:=P) (w:=w) (base:=base) d.uy digit c.Ce;have suits:=Kt (P:=P) (w:=w) (base:=base) d.suits digit takes b c.wb;have Th:=NC (P:=P) (w:=w) (base:=base) d.GL;have Tj:=KF (P:=P) (w:=w) (base:=base) d.DG;have Sz:=Hh (P:=P) (w:=w) (base:=base) d.BG Th suits c.N1;have UI:=ND (P:=P) (w:=w) (base:=base) d.KR Th suits c.oi;have OL:=KJ (P:=P) (w:=w) (base:=base) d.Hn Tj suits c.oi;have MO:=Nw (P:=P) (w:=w) (base:=base) d.MO b;have oby:=QI (P:=P) (w:=w) (base:=base) d.Gy MO;have comp:=NT (P:=P) (w:=w) (base:=base) k (KG d.jQ b);have off:=Q3 (P:=P) (w:=w) (base:=base) k b oby Sz UI OL;have fo:=UN (P:=P) (w:=w) (base:=base) d.BH b comp off;have need:=Ny (P:=P) (w:=w) (base:=base) d.xi c;have zI:=Hm (P:=P) (w:=w) (base:=base) d.zI;have Zn:=QG (P:=P) (w:=w) (base:=base) d.BC;have XE:=Nz (P:=P) (w:=w) (base:=base) d.Bf need UI OL zI Zn;have Tg:=NB (P:=P) (w:=w) (base:=base) d.zg b need (QL d.vq b zI) Zn;have cho:=Q4 (P:=P) (w:=w) (base:=base) k b;have Xf:=Nq (P:=P) (w:=w) (base:=base) d.uY Tg cho;have OJ:=KH (P:=P) (w:=w) (base:=base) d.zw (Kv d.uK b c cho);have KS:=KI (P:=P) (w:=w) (base:=base) d.zx fo OJ Xf;have yA:=G9 (P:=P) (w:=w) (base:=base) d.vY (QJ d.zd);have Sr:=Nn (P:=P) (w:=w) (base:=base) d.Iz b;have lsum:=NA (P:=P) (w:=w) (base:=base) d.DE b yA Sr;have pF:=QH (P:=P) (w:=w) (base:=base) d.ze b (Ki d.yz b c) (UM d.w9 yA Sr);have SV:=Nv (P:=P) (w:=w) (base:=base) d.wX b lsum;have R0:=Nm (P:=P) (w:=w) (base:=base) d.mh KS SV;have taxes:=Kq (P:=P) (w:=w) (base:=base) d.xa b;have ZK:=Hk (P:=P) (w:=w) (base:=base) d.zl b;have U5:=NE (P:=P) (w:=w) (base:=base) d.vf comp off;have OM:=BE (P:=P) (w:=w) (base:=base) d.tD comp;have RX:=Kh (P:=P) (w:=w) (base:=base) d.DX c (QM d.zk b) (Ko d.tF b) (DV d.pZ b (Hi d.rR b)) OM (No d.vT b Sz) (Np d.vU b XE);have amt:=QN (P:=P) (w:=w) (base:=base) d.Da b c;have aw:=UO (P:=P) (w:=w) (base:=base) d.Ee b;have A:As P w K mg base:=by
  constructor
  ·exact KA d.Jl b c (NS k)
  ·exact Kp d.F5 c
  ·exact KB d.sY
  ·exact Hj d.Gq c amt
  ·exact Nt d.MF amt
  ·exact Ky d.AO
  ·exact Kx d.Jj
  ·exact Kz d.AR b c (Q2 k) (Kw d.JP) (NR k)
  ·exact Ha d.CL c (Nu d.w6 KS lsum pF)
  ·exact Hb d.CM b c (QF d.Bm R0) taxes
  ·exact Kj d.yC b c ZK U5
  ·exact Kl d.F3 b c (KC d.lD ZK) U5 Tg
  ·exact Hf d.CP (KN d.zC c (Ku d.yI b c) RX (Km d.Iw b OM MO))
  ·exact Hg d.CQ c (KO d.qH fo OJ SV)
  ·exact He d.CO (KM d.D4 b KS yA)
  ·exact Kk d.wR c R0
  ·exact Hd d.CN b
  ·exact Kn d.yD b taxes
 exact Dg F b (Ld k c b) (Nr d.Gn b T) (Hl d.answer b c X.changes X.Go (QK d.Bs T aw (UK d.zj b aw)) A)
def WL (X:Txt P w K mg t) {fa:Addr} (hm:mg "answers" =some (.ref fa)): ∃fd:ad7,(∀(s:adN) (us:List Value),us.length=(["calls"]:List Str).length->aeF s fd ⟨us,[]⟩ ((["calls"]:List Str).zip us))/\∀base:adO,K.In base->base.Ns adX mg->kO P w K mg base Lm 14 fa fd ["calls"] (IG K):=by
 obtain ⟨f,fd,F,hf,_⟩:=X.ds.answers;have e:=hm.symm.trans hf;cases e;refine ⟨fd,?_,λbase _ _=>(ok_all X F).mono (by decide)⟩;obtain ⟨oc,od,kV,doc,pm,an,dD,ct,wA,rfl,lk,G0⟩:=F.ex;exact λs us hu=>match us,hu with
  | [_],_=> .of_eq rfl
end
end Lf
namespace L2
open PySem.W (WData Codec OpenSpec Well WellAll ReadsW ReadsAllW)
mutual
inductive Dw (K:aa) (H:Hp):V->WData->Prop
 |fY:Dw K H .fY .none
 |bl (b:Bool):Dw K H (.bl b) (.bool b)
 |int (i:Int):Dw K H (.int i) (.int i)
 |str (x:Str):Dw K H (.str x) (.str x)
 |zF (b:Array UInt8):Dw K H (.zF b) (.bytes b.toList)
 |lst {a:Addr} {xs:List V} {ds:List WData}:iF K H a xs->mM K H xs ds->Dw K H (.ref a) (.list ds)
 |tup {a:Addr} {xs:List V} {ds:List WData}:zK K H a xs->mM K H xs ds->Dw K H (.ref a) (.tuple ds)
inductive mM (K:aa) (H:Hp):List V->List WData->Prop
 |nil:mM K H [] []
 |cons {v:V} {vs:List V} {d:WData} {ds:List WData}:Dw K H v d->mM K H vs ds->mM K H (v::vs) (d::ds)
end
def NK {K:aa} {H:Hp}: ∀ns:List Int,mM K H (ns.map V.int) (ns.map WData.int)
 | []=> .nil
 |n::r=> .cons (.int n) (NK r)
def M7 {K:aa} {H:Hp}: ∀(ns:List Int) (xs:List V),mM K H xs (ns.map WData.int)->xs=ns.map V.int
 | [],xs,h=>by
  cases h;rfl
 |n::r,xs,h=>by
  cases h with
  |cons h1 h2=>
   cases h1;rw [M7 r _ h2] <;>rfl
section
variable {P:adT} {w:adQ} {K:aa} {H:Hp} {h:adO} {R:HP} {cl:Str->Option Addr}
def Pk {a:Addr} {xs:List V} (cO:oh P w H h) (KX:K.In h) (q:iF K H a xs): ∃(its:List Value) (o:Obj) (n:Nat),Vals xs its/\h.get? a=some o/\o.cls= .type "list"/\o.data= .seq its.toArray n:=by
 rcases q with q|⟨o,its,n,e,hc,_,hd,_,hv⟩
 ·obtain ⟨_,its,n,hv,e⟩:=(show dZ P w H h a (.lst xs) from q.ok cO)
  exact ⟨its,_,n,hv,e,rfl,rfl⟩
 ·exact ⟨its.toList,o,n,hv,KX _ _ e,hc,by simp [hd]⟩
def Pj {a:Addr} {xs:List V} (cO:oh P w H h) (KX:K.In h) (q:zK K H a xs): ∃(its:List Value) (o:Obj) (n:Nat),Vals xs its/\h.get? a=some o/\o.cls= .type "tuple"/\o.data= .seq its.toArray n:=by
 rcases q with q|⟨o,its,n,e,hc,hd,_,hv⟩
 ·obtain ⟨_,its,hv,o,e,hc,n,hd⟩:=(show dZ P w H h a (.tup xs) from q.ok cO)
  exact ⟨its,o,n,hv,e,hc,hd⟩
 ·exact ⟨its.toList,o,n,hv,KX _ _ e,hc,by simp [hd]⟩
mutual
def Dw.reads (cO:oh P w H h) (KX:K.In h): ∀(d:WData) (v:V) (u:Value),Dw K H v d->RelV v u->∃as,ReadsW R cl h u d as
 | .none,_,_,x,r=>by
  cases x;cases r;exact ⟨_,ReadsW.none⟩
 | .bool b,_,_,x,r=>by
  cases x;cases r;exact ⟨_,ReadsW.bool b⟩
 | .int i,_,_,x,r=>by
  cases x;obtain ⟨t,rfl⟩:=r;exact ⟨_,ReadsW.int i t⟩
 | .str s,_,_,x,r=>by
  cases x;obtain ⟨t,rfl⟩:=r;exact ⟨_,ReadsW.str s t⟩
 | .bytes b,_,_,x,r=>by
  cases x;obtain ⟨t,rfl⟩:=r;exact ⟨_,ReadsW.bytes _ t⟩
 | .list ds,_,_,x,r=>by
  cases x with
  |lst hs ha=>
   cases r;obtain ⟨its,o,n,rv,ho,hc,hd⟩:=Pk cO KX hs;obtain ⟨as,hr⟩:=Dw.readsAll cO KX ds _ its ha rv;exact ⟨_,ReadsW.list ho hc hd hr⟩
 | .tuple ds,_,_,x,r=>by
  cases x with
  |tup hs ha=>
   cases r;obtain ⟨its,o,n,rv,ho,hc,hd⟩:=Pj cO KX hs;obtain ⟨as,hr⟩:=Dw.readsAll cO KX ds _ its ha rv;exact ⟨_,ReadsW.tuple ho hc hd hr⟩
 | .float _,_,_,x,_=>by cases x
 | .dict _,_,_,x,_=>by cases x
 | .bytearray _,_,_,x,_=>by cases x
 | .set _,_,_,x,_=>by cases x
 | .frozenset _,_,_,x,_=>by cases x
 | .obj _ _,_,_,x,_=>by cases x
def Dw.readsAll (cO:oh P w H h) (KX:K.In h): ∀(ds:List WData) (vs:List V) (us:List Value),mM K H vs ds->Vals vs us->∃as,ReadsAllW R cl h us ds as
 | [],_,_,x,r=>by
  cases x;cases r;exact ⟨_,ReadsAllW.nil⟩
 |d::ds,_,_,x,r=>by
  cases x with
  |cons h1 h2=>
   cases r with
   |cons r1 r2=>
    obtain ⟨as,q1⟩:=Dw.reads cO KX d _ _ h1 r1;obtain ⟨bs,q2⟩:=Dw.readsAll cO KX ds _ _ h2 r2;exact ⟨_,ReadsAllW.cons q1 q2⟩
end
end
mutual
def EU:WData->Bool
 | .none=>true
 | .bool _=>true
 | .int _=>true
 | .str _=>true
 | .bytes _=>true
 | .list xs=>sZ xs
 | .tuple xs=>sZ xs
 |_=>false
def sZ:List WData->Bool
 | []=>true
 |x::r=>EU x&&sZ r
end
def AW {α:Type} {f:α->WData} (h: ∀a,EU (f a)=true): ∀l:List α,sZ (l.map f)=true
 | []=>rfl
 |x::r=>by
  show (EU (f x)&&sZ (r.map f))=true;rw [h x,AW h r] <;>rfl
def nv: ∀(c:Codec) (a:c.denote),EU (c.enc a)=true
 | .unit,_=>rfl
 | .bool,_=>rfl
 | .int _ _,_=>rfl
 | .nat _ _,_=>rfl
 | .u8,_=>rfl
 | .bytes _ _,_=>rfl
 | .text _ _ _ _,_=>rfl
 | .list _ _ c,a=>AW (λx=>nv c x) a
 | .pair c d,a=>by
  show (EU (c.enc a.1)&&(EU (d.enc a.2)&&true))=true;rw [nv c a.1,nv d a.2] <;>rfl
 | .triple c d e,a=>by
  show (EU (c.enc a.1)&&(EU (d.enc a.2.1)&&(EU (e.enc a.2.2)&&true)))=true;rw [nv c a.1,nv d a.2.1,nv e a.2.2] <;>rfl
 | .option c,none=>rfl
 | .option c,some x=>nv c x
def xK: ∀(cs:List Codec) (a:Codec.denoteAll cs),sZ (Codec.encAll cs a)=true
 | [],_=>rfl
 |c::cs,a=>by
  show (EU (c.enc a.1)&&sZ (Codec.encAll cs a.2))=true;rw [nv c a.1,xK cs a.2] <;>rfl
def pB: ∀{xs:List WData} {d:WData},d∈xs->d.weight<=WData.weightAll xs
 | [],d,h=>absurd h (by simp)
 |x::r,d,h=>by
  show d.weight<=x.weight+1+WData.weightAll r;rcases aD.mp h with e|m
  ·rw [e];omega
  ·have z:=pB m;omega
def toV:Value->V
 | .none=> .fY
 | .bool b=> .bl b
 | .int i _=> .int i
 | .str x _=> .str x
 | .bytes b _=> .zF b
 | .ref a=> .ref a
 |_=> .fY
def HJ (A:List Addr):Value->Prop
 | .none=>True
 | .bool _=>True
 | .int _ _=>True
 | .str _ _=>True
 | .bytes _ _=>True
 | .ref a=>a∈A
 |_=>False
def HJ.mono {A B:List Addr} (h: ∀a∈A,a∈B): ∀{u:Value},HJ A u->HJ B u:=λ{u} x=>by
 cases u with
 |ref a=>exact h a x
 |none=>trivial
 |bool b=>trivial
 |int i t=>trivial
 |str s t=>trivial
 |bytes b t=>trivial
 |_=>exact dj x
def Jg {A:List Addr} {u:Value} (x:HJ A u):RelV (toV u) u:=by
 cases u with
 |ref a=>rfl
 |none=>rfl
 |bool b=>rfl
 |int i t=>exact ⟨t,rfl⟩
 |str s t=>exact ⟨t,rfl⟩
 |bytes b t=>exact ⟨t,rfl⟩
 |_=>exact dj x
def kU {A:List Addr}: ∀{vs:List Value},(∀u∈vs,HJ A u)->Vals (vs.map toV) vs
 | [],_=> .nil
 |u::r,h=> .cons (Jg (h u (aM ..))) (kU λx hx=>h x (aF _ hx))
def mP (h:adO) (A:List Addr) (a:Addr):Prop:= ∃vs:List Value,vs.length<=sizeLine/\(∀u∈vs,HJ A u)/\
 (h.get? a=some {cls:= .type "list",data:= .seq vs.toArray}∨h.get? a=some {cls:= .type "tuple",data:= .seq vs.toArray})
def mP.mono {h:adO} {A B:List Addr} {a:Addr} (k: ∀a∈A,a∈B) (x:mP h A a):mP h B a:=by
 obtain ⟨vs,h1,h2,h3⟩:=x;exact ⟨vs,h1,λu hu=>(h2 u hu).mono k,h3⟩
def j9 {P:aem} {h:adO}: ∀{vs:List Value} {ds:List WData},WellAll P h vs ds->vs.length=ds.length
 |_,_, .nil=>rfl
 |_,_, .cons _ b=>by
  show _+1=_+1;rw [j9 b]
def xu {P:aem} {h:adO} {v:Value} {ds:List WData} (x:Well P h v (.list ds)): ∃(a:Addr) (vs:List Value),v= .ref a/\h.get? a=some {cls:= .type "list",data:= .seq vs.toArray}/\WellAll P h vs ds:=by
 cases x with
 |list ho hall=>exact ⟨_,_,rfl,ho,hall⟩
def uo {P:aem} {h:adO} {v:Value} {ds:List WData} (x:Well P h v (.tuple ds)): ∃(a:Addr) (vs:List Value),v= .ref a/\h.get? a=some {cls:= .type "tuple",data:= .seq vs.toArray}/\WellAll P h vs ds:=by
 cases x with
 |tuple ho hall=>exact ⟨_,_,rfl,ho,hall⟩
def xw {P:aem} {h:adO} {us:List Value} {d:WData} {ds:List WData} (x:WellAll P h us (d::ds)): ∃(v:Value) (vs:List Value),us=v::vs/\Well P h v d/\WellAll P h vs ds:=by
 cases x with
 |cons a b=>exact ⟨_,_,rfl,a,b⟩
def Fa {n:Nat} (h:n<=1048576):n<=sizeLine:=aV h (by decide)
section
variable {P:aem} {h:adO}
mutual
def Lg: ∀(d:WData) (v:Value),Well P h v d->EU d=true->d.weight<=1048576->∃A:List Addr,HJ A v/\∀a∈A,mP h A a
 | .none,_,x,_,_=>by
  cases x;exact ⟨[],trivial,λa m=>absurd m (by simp)⟩
 | .bool b,_,x,_,_=>by
  cases x;exact ⟨[],trivial,λa m=>absurd m (by simp)⟩
 | .int i,_,x,_,_=>by
  cases x;exact ⟨[],trivial,λa m=>absurd m (by simp)⟩
 | .str s,_,x,_,_=>by
  cases x;exact ⟨[],trivial,λa m=>absurd m (by simp)⟩
 | .bytes b,_,x,_,_=>by
  cases x;exact ⟨[],trivial,λa m=>absurd m (by simp)⟩
 | .list ds,_,x,p,z=>by
  obtain ⟨a,vs,rfl,ho,hall⟩:=xu x;have z2:WData.weightAll ds<=1048576:=z;obtain ⟨A,h1,h2⟩:=qO ds _ hall p λd hd=>aV (pB hd) z2;have k: ∀b∈A,b∈a::A:=λb hb=>aF _ hb;refine ⟨a::A,aM ..,λb hb=>?_⟩;rcases aD.mp hb with e|m
  ·rw [e];exact ⟨vs,Fa (by rw [j9 hall];exact aV (tK ds) z2),λu hu=>(h1 u hu).mono k, .inl ho⟩
  ·exact (h2 b m).mono k
 | .tuple ds,_,x,p,z=>by
  obtain ⟨a,vs,rfl,ho,hall⟩:=uo x;have z2:WData.weightAll ds<=1048576:=z;obtain ⟨A,h1,h2⟩:=qO ds _ hall p λd hd=>aV (pB hd) z2;have k: ∀b∈A,b∈a::A:=λb hb=>aF _ hb;refine ⟨a::A,aM ..,λb hb=>?_⟩;rcases aD.mp hb with e|m
  ·rw [e];exact ⟨vs,Fa (by rw [j9 hall];exact aV (tK ds) z2),λu hu=>(h1 u hu).mono k, .inr ho⟩
  ·exact (h2 b m).mono k
 | .float _,_,_,p,_=>cB (show false=true from p)
 | .dict _,_,_,p,_=>cB (show false=true from p)
 | .bytearray _,_,_,p,_=>cB (show false=true from p)
 | .set _,_,_,p,_=>cB (show false=true from p)
 | .frozenset _,_,_,p,_=>cB (show false=true from p)
 | .obj _ _,_,_,p,_=>cB (show false=true from p)
def qO: ∀(ds:List WData) (vs:List Value),WellAll P h vs ds->sZ ds=true->(∀d∈ds,d.weight<=1048576)->∃A:List Addr,(∀u∈vs,HJ A u)/\∀a∈A,mP h A a
 | [],_,x,_,_=>by
  cases x;exact ⟨[],λu m=>absurd m (by simp),λa m=>absurd m (by simp)⟩
 |d::ds,_,x,p,z=>by
  obtain ⟨v,vs,rfl,x1,x2⟩:=xw x;have q:EU d=true/\sZ ds=true:=pA.mp p;obtain ⟨A,a1,a2⟩:=Lg d v x1 q.1 (z d (aM ..));obtain ⟨B,b1,b2⟩:=qO ds vs x2 q.2 λe he=>z e (aF _ he);have kA: ∀b∈A,b∈A++B:=λb hb=>bG.mpr (.inl hb);have kB: ∀b∈B,b∈A++B:=λb hb=>bG.mpr (.inr hb);refine ⟨A++B,λu hu=>?_,λb hb=>?_⟩
  ·rcases aD.mp hu with e|m
   ·rw [e];exact a1.mono kA
   ·exact (b1 u m).mono kB
  ·rcases bG.mp hb with m|m
   ·exact (a2 b m).mono kA
   ·exact (b2 b m).mono kB
end
end
def Nc (o:Obj):Option HO:=match o.data with
 | .seq vs _=>if (o.cls==Value.type "list")=true then some (.lQ o (.lst (vs.toList.map toV))) else some (.lQ o (.tup (vs.toList.map toV)))
 |_=>none
def mq (K:aa) (h:adO) (A:List Addr):Hp:=λb=>if b∈A then (if (K.lookup b).isNone=true then (h.get? b).bind Nc else none) else none
def B0 (H:Hp):Prop:= ∀b,H b=none∨∃o u,H b=some (.lQ o u)
def Bx (vs:List Value):Nc {cls:= .type "list",data:= .seq vs.toArray}=some (.lQ {cls:= .type "list",data:= .seq vs.toArray} (.lst (vs.map toV))):=by
 show (if (Value.type "list" ==Value.type "list")=true then some (HO.lQ {cls:= .type "list",data:= .seq vs.toArray} (.lst (vs.toArray.toList.map toV))) else some (HO.lQ {cls:= .type "list",data:= .seq vs.toArray} (.tup (vs.toArray.toList.map toV))))=_;rw [if_pos (beq_self_eq_true _)]
def Bw (vs:List Value):Nc {cls:= .type "tuple",data:= .seq vs.toArray}=some (.lQ {cls:= .type "tuple",data:= .seq vs.toArray} (.tup (vs.map toV))):=by
 show (if (Value.type "tuple" ==Value.type "list")=true then some (HO.lQ {cls:= .type "tuple",data:= .seq vs.toArray} (.lst (vs.toArray.toList.map toV))) else some (HO.lQ {cls:= .type "tuple",data:= .seq vs.toArray} (.tup (vs.toArray.toList.map toV))))=_;rw [if_neg (by decide)]
section
variable {P:adT} {w:adQ} {K:aa} {h:adO} {A:List Addr}
def ud {b:Addr} {o:Obj} (hb:b∈A) (hk:K.lookup b=none) (e:h.get? b=some o):mq K h A b=Nc o:=by
 unfold mq;rw [if_pos hb,hk,if_pos (show (none:Option Obj).isNone=true from rfl),e] <;>rfl
def MV {b:Addr} {u:HO} (q:mq K h A b=some u):b∈A/\K.lookup b=none:=by
 unfold mq at q;by_cases hb:b∈A
 ·rw [if_pos hb] at q;cases hk:K.lookup b with
  |none=>exact ⟨hb,rfl⟩
  |some o=>
   rw [hk,if_neg (by simp)] at q;cases q
 ·rw [if_neg hb] at q;cases q
def uc (ar: ∀a∈A,mP h A a) {b:Addr} {u:HO} (q:mq K h A b=some u):K.lookup b=none/\∃vs:List Value,vs.length<=sizeLine/\(∀u∈vs,HJ A u)/\
  ((h.get? b=some {cls:= .type "list",data:= .seq vs.toArray}/\u= .lQ {cls:= .type "list",data:= .seq vs.toArray} (.lst (vs.map toV)))∨
   (h.get? b=some {cls:= .type "tuple",data:= .seq vs.toArray}/\u= .lQ {cls:= .type "tuple",data:= .seq vs.toArray} (.tup (vs.map toV)))):=by
 obtain ⟨hb,hk⟩:=MV q;obtain ⟨vs,h1,h2,h3⟩:=ar b hb;refine ⟨hk,vs,h1,h2,?_⟩;rcases h3 with e|e
 ·rw [ud hb hk e,Bx] at q;exact .inl ⟨e,(bx q).symm⟩
 ·rw [ud hb hk e,Bw] at q;exact .inr ⟨e,(bx q).symm⟩
def HE (ar: ∀a∈A,mP h A a):B0 (mq K h A):=λb=>by
 cases q:mq K h A b with
 |none=>exact .inl rfl
 |some u=>
  obtain ⟨_,vs,_,_,⟨_,e⟩|⟨_,e⟩⟩:=uc ar q
  ·exact .inr ⟨_,_,by rw [e]⟩
  ·exact .inr ⟨_,_,by rw [e]⟩
def N0 (ar: ∀a∈A,mP h A a):oh P w (mq K h A) h:=λb u q=>by
 obtain ⟨_,vs,h1,h2,⟨e,rfl⟩|⟨e,rfl⟩⟩:=uc ar q
 ·exact ⟨e,by rw [ab];exact h1,vs,_,kU h2,e⟩
 ·exact ⟨e,by rw [ab];exact h1,vs,kU h2,_,e,rfl,_,rfl⟩
def tX {c c':Value} {vs us:List Value} (e:(some {cls:=c,data:= .seq vs.toArray}:Option Obj)=some {cls:=c',data:= .seq us.toArray}):c=c'/\vs=us:=by
 have e1:=bx e;have e2:c=c':=congrArg Obj.cls e1;have e3:Data.seq vs.toArray=Data.seq us.toArray:=congrArg Obj.data e1;injection e3 with e4;refine ⟨e2,?_⟩;have e5:=congrArg Rm e4;simpa using e5
def Za (KX:K.In h) (ar: ∀a∈A,mP h A a) {a:Addr} {vs:List Value} (ha:a∈A) (e:h.get? a=some {cls:= .type "list",data:= .seq vs.toArray}):(∀u∈vs,HJ A u)/\iF K (mq K h A) a (vs.map toV):=by
 obtain ⟨us,h1,h2,h3⟩:=ar a ha;have hu:us=vs:=by
  rcases h3 with q|q
  ·rw [e] at q;exact (tX q).2.symm
  ·rw [e] at q;exact absurd (Value.type.inj (tX q).1) (by decide)
 subst hu;refine ⟨h2,?_⟩;cases hk:K.lookup a with
 |none=>exact .inl (.inr ⟨_,by rw [ud ha hk e,Bx]⟩)
 |some o=>
  have e2:=KX a o hk;rw [e] at e2;obtain rfl:=bx e2;exact .inr ⟨_,us.toArray,_,hk,rfl,rfl,rfl,by rw [bf];exact h1,by simpa using kU h2⟩
def Y9 (KX:K.In h) (ar: ∀a∈A,mP h A a) {a:Addr} {vs:List Value} (ha:a∈A) (e:h.get? a=some {cls:= .type "tuple",data:= .seq vs.toArray}):(∀u∈vs,HJ A u)/\zK K (mq K h A) a (vs.map toV):=by
 obtain ⟨us,h1,h2,h3⟩:=ar a ha;have hu:us=vs:=by
  rcases h3 with q|q
  ·rw [e] at q;exact absurd (Value.type.inj (tX q).1) (by decide)
  ·rw [e] at q;exact (tX q).2.symm
 subst hu;refine ⟨h2,?_⟩;cases hk:K.lookup a with
 |none=>exact .inl (.inr ⟨_,by rw [ud ha hk e,Bw]⟩)
 |some o=>
  have e2:=KX a o hk;rw [e] at e2;obtain rfl:=bx e2;exact .inr ⟨_,us.toArray,_,hk,rfl,rfl,by rw [bf];exact h1,by simpa using kU h2⟩
mutual
def QU {Pm:aem} (KX:K.In h) (ar: ∀a∈A,mP h A a): ∀(d:WData) (v:Value),Well Pm h v d->EU d=true->HJ A v->Dw K (mq K h A) (toV v) d
 | .none,_,x,_,_=>by
  cases x;exact .fY
 | .bool b,_,x,_,_=>by
  cases x;exact .bl b
 | .int i,_,x,_,_=>by
  cases x;exact .int i
 | .str s,_,x,_,_=>by
  cases x;exact .str s
 | .bytes b,_,x,_,_=>by
  cases x;have z:=Dw.zF (K:=K) (H:=mq K h A) b.toArray;exact z
 | .list ds,_,x,p,hu=>by
  obtain ⟨a,vs,rfl,ho,hall⟩:=xu x;obtain ⟨h2,hs⟩:=Za KX ar hu ho;exact .lst hs (zz KX ar ds _ hall p h2)
 | .tuple ds,_,x,p,hu=>by
  obtain ⟨a,vs,rfl,ho,hall⟩:=uo x;obtain ⟨h2,hs⟩:=Y9 KX ar hu ho;exact .tup hs (zz KX ar ds _ hall p h2)
 | .float _,_,_,p,_=>cB (show false=true from p)
 | .dict _,_,_,p,_=>cB (show false=true from p)
 | .bytearray _,_,_,p,_=>cB (show false=true from p)
 | .set _,_,_,p,_=>cB (show false=true from p)
 | .frozenset _,_,_,p,_=>cB (show false=true from p)
 | .obj _ _,_,_,p,_=>cB (show false=true from p)
def zz {Pm:aem} (KX:K.In h) (ar: ∀a∈A,mP h A a): ∀(ds:List WData) (vs:List Value),WellAll Pm h vs ds->sZ ds=true->(∀u∈vs,HJ A u)->mM K (mq K h A) (vs.map toV) ds
 | [],_,x,_,_=>by
  cases x;exact .nil
 |d::ds,_,x,p,hu=>by
  obtain ⟨v,vs,rfl,x1,x2⟩:=xw x;have q:EU d=true/\sZ ds=true:=pA.mp p;exact .cons (QU KX ar d v x1 q.1 (hu _ (aM ..))) (zz KX ar ds vs x2 q.2 λu m=>hu u (aF _ m))
end
end
def F7 {P:adT} {w:adQ} {K:aa} {mg mb:Str->Option Value} {CX:HM} {k:Nat} {fa:Addr} {fd:ad7} {ps:List Str} {sp:Sp} {dG:adN} {vals:List Value} {ds:List WData} {R:HP} {cl:Str->Option Addr} {d0:WData}
  (KX:K.In dG.heap) (Nd:dG.heap.Ns adX mg) (hb:dG.heap.Ns builtinsNs mb) (hbb: ∀x:Str,x≠"__name__"->mb x=aeD x) (Yl:dG.heap.NoLimit) (hg:dG.gens= #[])
  (TD:WellAll w.params dG.heap vals ds) (hpl:sZ ds=true) (hwt: ∀d∈ds,d.weight<=1048576) (hr:iu k aeN)
  (F: ∀base:adO,K.In base->base.Ns adX mg->kO P w K mg base CX k fa fd ps sp) (Uw: ∀(s:adN) (us:List Value),us.length=ps.length->aeF s fd ⟨us,[]⟩ (ps.zip us)) (hlen:ds.length=ps.length)
  (LD: ∀(H:Hp) (xs:List V),B0 H->mM K H xs ds->sp xs H (λv H'=>Dw K H' v d0) λ_ _ _=>False)
  (UA: ∀H e s',CX [] H dG (λ_ _ _=>False) e s'->False):
  codeAny (adR P w) aeN (.call (.ref fa) ⟨vals,[]⟩) (λr s'=> ∃u as,r= .ok (.ret u)/\ReadsW R cl s'.heap u d0 as/\OldK dG.heap s'.heap/\s'.os=dG.os/\AllBare s'.gens) dG:=by
 obtain ⟨A,ho,ar⟩:=qO ds vals TD hpl hwt;have hO:B0 (mq K dG.heap A):=HE ar;have cO:oh P w (mq K dG.heap A) dG.heap:=N0 ar;have hS:=zz KX ar ds vals TD hpl ho;have hV:=kU ho;have hK: ∀b u,mq K dG.heap A b=some u->K.lookup b=none:=λb u q=>(uc ar q).1;have Rt: ∀{b:Addr} {o:Obj} {es:Array aeL} {ep:Nat},dG.heap.get? b=some o->o.data= .dict es ep->mq K dG.heap A b=none:=λ{b o es ep} e d=>by
  cases q:mq K dG.heap A b with
  |none=>rfl
  |some u=>
   obtain ⟨_,vs,_,_,⟨e2,_⟩|⟨e2,_⟩⟩:=uc ar q
   ·rw [e2] at e;cases e;have d':Data.seq vs.toArray _=Data.dict es ep:=d;cases d'
   ·rw [e2] at e;cases e;have d':Data.seq vs.toArray _=Data.dict es ep:=d;cases d'
 generalize mq K dG.heap A=H at hO cO hS hK Rt;have FB: ∀{b:Addr} {o:Obj},dG.heap.get? b=some o->H b=none->(zq dG.heap H).get? b=some o:=λe n=>J0 e n;have VF: ∀{b:Addr} {m:Str->Option Value},dG.heap.Ns b m->(zq dG.heap H).Ns b m:=λ{b m} ⟨o,es,ep,e,d,r⟩=>⟨o,es,ep,FB e (Rt e d),d,r⟩
 have nK: ∀b o,K.lookup b=some o->H b=none:=λb o e=>by
  cases q:H b with
  |none=>rfl
  |some u=>
   rw [hK b u q] at e;cases e
 have hKb:K.In (zq dG.heap H):=λb o e=>FB (KX b o e) (nK b o e);have hM:Mod K mg (zq dG.heap H):=⟨hKb,VF Nd,⟨mb,VF hb,hbb⟩,let ⟨mc,h1,h2⟩:=Yl;⟨mc,VF h1,h2⟩⟩
 have e0:Ej P w K mg (zq dG.heap H) aeN [] dG H:=⟨rfl,hM,λb o e=>MU e,tO (GY _ _),trivial,λb hb=>absurd (show b∈([]:List Addr) from hb) (by simp),cO, .of_eq hg⟩
 have hl:vals.length=ps.length:=by rw [j9 TD];exact hlen
 refine aey ((F _ hKb (VF Nd)).run aeN [] dG H ⟨vals,[]⟩ vals (vals.map toV) _ _ hr e0 (Uw dG vals hl) hV (LD H _ hO hS)) λr s' x=>?_;cases r with
 |error e=>exact (UA H e s' x).elim
 |ok fl=>
  cases fl with
  |next=>exact dj x
  |brk=>exact dj x
  |cont=>exact dj x
  |ret u=>
   obtain ⟨v,H',os,bare,un,T6,r',q⟩:=x;have kept: ∀b o,dG.heap.get? b=some o->s'.heap.get? b=some o:=λb o e=>by
    cases q2:H b with
    |none=>exact un.keep b o e q2 (by intro z;exact absurd (show b∈([]:List Addr) from z) (by simp)) (by simp)
    |some u2=>
     rcases hO b with z|⟨ob,u3,z⟩
     ·rw [q2] at z;cases z
     ·have z2:=un.vL b ob _ z;obtain ⟨e1,_⟩:=cO b _ z;obtain ⟨e2,_⟩:=T6 b _ z2;rw [e] at e1;cases e1;exact e2
   have KX':K.In s'.heap:=λb o e=>kept b o (KX b o e);obtain ⟨as,ZR⟩:=Dw.reads (R:=R) (cl:=cl) T6 KX' d0 v u q r';exact ⟨u,as,rfl,ZR,OldK.of_keep kept,os,bare⟩
def vt {ds:List WData} (h:WData.layableAll ds=true): ∀d∈ds,d.weight<=1048576:=λd hd=>
 (PySem.W.layableW_iff.mp (bJ.mp h d hd)).2.2
def vR: ∀(cs:List Codec) (a:Codec.denoteAll cs),(Codec.encAll cs a).length=cs.length
 | [],_=>rfl
 |c::cs,a=>by
  show (Codec.encAll cs a.2).length+1=cs.length+1;rw [vR cs a.2]
def FU {r:OpenSpec} {k:Nat} {q:adT} {loose:List Str} {XP:(Str->Option Value)->adO->Prop} {YP:adQ->adO->Prop} {d:DefRec} {K:aem->aa} {CX:adQ->HM} {ps:List Str} {sp:adQ->Sp}
  (JS:r.wellSaid=true) (hdf:d.params.defaults= []) (hlen:r.args.length=ps.length) (hr:iu k aeN)
  (hY: ∀(w:adQ) (h:adO),YP w h->(K w.params).In h)
  (F: ∀(w:adQ) (mg:Str->Option Value) (fa:Addr) (h:adO),YP w h->(K w.params).In h->h.Ns adX mg->mg d.name=some (.ref fa)->
   ∃fd:ad7,(∀(s:adN) (us:List Value),us.length=ps.length->aeF s fd ⟨us,[]⟩ (ps.zip us))/\
    ∀base:adO,(K w.params).In base->base.Ns adX mg->kO r.prog w (K w.params) mg base (CX w) k fa fd ps (sp w))
  (LD: ∀(w:adQ) (H:Hp) (xs:List V) (a:Codec.denoteAll r.args),B0 H->Codec.withinAll r.args a=true->Codec.app r.args r.asked a=true->mM (K w.params) H xs (Codec.encAll r.args a)->
   sp w xs H (λv H'=>Dw (K w.params) H' v (r.ret.enc (Codec.app r.args r.f a))) λ_ _ _=>False)
  (UA: ∀(w:adQ) (H:Hp) (s:adN) (e:Value) (s':adN),CX w [] H s (λ_ _ _=>False) e s'->False):
  Ln q loose XP YP r d [] (λf vs=>Vh f vs):=by
 intro w xJ dG mg mb G Y fa o pm cd doc dV kV ho hd G0 hD hmg hg args vals as Ya Yn ZR TD Z2;obtain ⟨a,e1,e2⟩:=PySem.W.os_pre_some Ya;obtain ⟨e3,Qh⟩:=Codec.encAll_of_decAll r.args args a e1;subst e3;have KX:=hY w _ Y;obtain ⟨fd,hb,hF⟩:=F w mg fa _ Y KX G.T.g hmg;refine PySem.W.enter_call (aey (F7 (R:= []) (cl:=classAt xJ.heap) (d0:=r.ret.enc (Codec.app r.args r.f a)) KX G.T.g G.T.b G.T.builtins G.T.nolimit hg TD (xK _ _) (vt Yn) hr hF hb (by rw [vR];exact hlen)
  (λH xs hO hS=>LD w H xs a hO Qh e2 hS) λH e s'=>UA w H dG e s') λr' s' hq=>?_)
 obtain ⟨u,Wj,rfl,h1,h2,h3,h4⟩:=hq;exact ⟨.inl ⟨u,_,Wj,rfl,λ_=>rfl,h1,(OpenSpec.post_iff JS Qh _ _).mpr rfl,λz=>cB (show false=true from z)⟩,h2,h3,h4⟩
def O3 {r:OpenSpec} {k:Nat} {q:adT} {loose:List Str} {XP:(Str->Option Value)->adO->Prop} {YP:adQ->adO->Prop} {d:DefRec} {K:aem->aa} {CX:HM} {ps:List Str} {sp:aa->Sp}
  (JS:r.wellSaid=true) (hdf:d.params.defaults= []) (hlen:r.args.length=ps.length) (hr:iu k aeN)
  (hY: ∀(w:adQ) (h:adO),YP w h->(K w.params).In h)
  (F: ∀(w:adQ) (mg:Str->Option Value) (fa:Addr) (h:adO),YP w h->(K w.params).In h->h.Ns adX mg->mg d.name=some (.ref fa)->
   ∃fd:ad7,(∀(s:adN) (us:List Value),us.length=ps.length->aeF s fd ⟨us,[]⟩ (ps.zip us))/\
    ∀base:adO,(K w.params).In base->base.Ns adX mg->kO r.prog w (K w.params) mg base CX k fa fd ps (sp (K w.params)))
  (LD: ∀(K:aa) (H:Hp) (xs:List V) (a:Codec.denoteAll r.args),B0 H->Codec.withinAll r.args a=true->Codec.app r.args r.asked a=true->mM K H xs (Codec.encAll r.args a)->
   sp K xs H (λv H'=>Dw K H' v (r.ret.enc (Codec.app r.args r.f a))) λ_ _ _=>False)
  (UA: ∀(H:Hp) (s:adN) (e:Value) (s':adN),CX [] H s (λ_ _ _=>False) e s'->False):
  Ln q loose XP YP r d [] (λf vs=>Vh f vs):=
 FU (K:=K) (CX:=λ_=>CX) (sp:=λw=>sp (K w.params)) JS hdf hlen hr hY F (λw H xs a h1 h2 h3 h4=>LD (K w.params) H xs a h1 h2 h3 h4) λ_ H s e s'=>UA H s e s'
end L2
open PySem PySem.W PyProof.Rows
set_option maxRecDepth 100000 in
set_option maxHeartbeats 0 in
theorem PySem.Challenge.cw_leastfares_s01_answers_holds : PySem.Challenge.rw_leastfares_s01_answers.Holds := by
 w_on;k_headS;(case hw=>exact ⟨[.list [.int 16]],by decide+kernel,by decide+kernel⟩)
 k_fillS
 refine L2.O3 (r:=PySem.Challenge.rw_leastfares_s01_answers) (k:=14) (CX:=L2.Lm) (ps:= ["calls"]) (sp:=Lf.IG) (by decide+kernel) rfl rfl ⟨rfl,by decide,by decide⟩ (λw h Y=>PySem.W.kIn_of Y) ?F ?S (λ_ _ _ _ z=>z)
 case F=>
  intro w mg fa h Y KX G hmg
  have bl:Lf.Bl mg:=by
   constructor
   all_goals (refine' PySem.W.mg_none_of KX G ?_;k_is)
  have cs:Lf.Cs mg:=by
   constructor
   ·refine' Lf.aav KX G ?ciGROUPS;(case ciGROUPS=>k_is)
   ·refine' Lf.aav KX G ?ciKINDS;(case ciKINDS=>k_is)
   ·refine' Lf.aav KX G ?ciOUT_OF_RANGE;(case ciOUT_OF_RANGE=>k_is)
   ·refine' Lf.aav KX G ?ciNO_JOURNEY;(case ciNO_JOURNEY=>k_is)
   ·refine' Lf.aav KX G ?ciNO_SEGMENTS;(case ciNO_SEGMENTS=>k_is)
   ·refine' Lf.aav KX G ?ciNO_FARE;(case ciNO_FARE=>k_is)
   ·refine' Lf.aav KX G ?ciNOT_RIGHT;(case ciNOT_RIGHT=>k_is)
   ·refine' Lf.aav KX G ?ciNO_PRICE;(case ciNO_PRICE=>k_is)
   ·refine' Lf.aav KX G ?ciFULL;(case ciFULL=>k_is)
   ·refine' Lf.aav KX G ?ciMOST_FARES;(case ciMOST_FARES=>k_is)
   ·refine' Lf.aav KX G ?ciMOST_AMOUNTS;(case ciMOST_AMOUNTS=>k_is)
   ·refine' Lf.aav KX G ?ciSEGMENT_NUMBERS;(case ciSEGMENT_NUMBERS=>k_is)
   ·refine' Lf.aav KX G ?ciSATURDAY_DIGIT;(case ciSATURDAY_DIGIT=>k_is)
   ·refine' Lf.aav KX G ?ciANY_CARRIER;(case ciANY_CARRIER=>k_is)
   ·refine' Lf.aav KX G ?ciONE_WAY;(case ciONE_WAY=>k_is)
   ·refine' Lf.aav KX G ?ciHALF_OF_RETURN;(case ciHALF_OF_RETURN=>k_is)
   ·refine' Lf.aav KX G ?ciNEAR_ENDS_ONLY;(case ciNEAR_ENDS_ONLY=>k_is)
   ·refine' Lf.aav KX G ?ciFAR_ENDS_ONLY;(case ciFAR_ENDS_ONLY=>k_is)
   ·refine' Lf.aav KX G ?ciTHREE_NUMBERS;(case ciTHREE_NUMBERS=>k_is)
   ·refine' Lf.aav KX G ?ciNOTHING_WRONG;(case ciNOTHING_WRONG=>k_is)
   ·refine' Lf.aav KX G ?ciWRONG_CUT;(case ciWRONG_CUT=>k_is)
   ·refine' Lf.aav KX G ?ciNO_SUCH_FARE;(case ciNO_SUCH_FARE=>k_is)
   ·refine' Lf.aav KX G ?ciWRONG_PARTNER;(case ciWRONG_PARTNER=>k_is)
   ·refine' Lf.aav KX G ?ciNOT_SINGLY;(case ciNOT_SINGLY=>k_is)
   ·refine' Lf.aav KX G ?ciNO_RETURN;(case ciNO_RETURN=>k_is)
   ·refine' Lf.aav KX G ?ciNO_PARTNER;(case ciNO_PARTNER=>k_is)
   ·refine' Lf.aav KX G ?ciNO_TOTAL;(case ciNO_TOTAL=>k_is)
   ·refine' Lf.aav KX G ?ciFARES_PLACE;(case ciFARES_PLACE=>k_is)
  have ds:Lf.Ds (L2.KOf KX) mg:=by
   dsimp only [L2.KOf]
   constructor
   ·refine' Lf.aat KX G ?a18 ?l18 ?c18 ?k18;(case a18=>k_is);(case l18=>k_is);(case c18=>k_is);(case k18=>k_is)
   ·refine' Lf.aat KX G ?a19 ?l19 ?c19 ?k19;(case a19=>k_is);(case l19=>k_is);(case c19=>k_is);(case k19=>k_is)
   ·refine' Lf.aat KX G ?a20 ?l20 ?c20 ?k20;(case a20=>k_is);(case l20=>k_is);(case c20=>k_is);(case k20=>k_is)
   ·refine' Lf.aat KX G ?a21 ?l21 ?c21 ?k21;(case a21=>k_is);(case l21=>k_is);(case c21=>k_is);(case k21=>k_is)
   ·refine' Lf.aat KX G ?a22 ?l22 ?c22 ?k22;(case a22=>k_is);(case l22=>k_is);(case c22=>k_is);(case k22=>k_is)
   ·refine' Lf.aat KX G ?a23 ?l23 ?c23 ?k23;(case a23=>k_is);(case l23=>k_is);(case c23=>k_is);(case k23=>k_is)
   ·refine' Lf.aat KX G ?a24 ?l24 ?c24 ?k24;(case a24=>k_is);(case l24=>k_is);(case c24=>k_is);(case k24=>k_is)
   ·refine' Lf.aat KX G ?a25 ?l25 ?c25 ?k25;(case a25=>k_is);(case l25=>k_is);(case c25=>k_is);(case k25=>k_is)
   ·refine' Lf.aat KX G ?a26 ?l26 ?c26 ?k26;(case a26=>k_is);(case l26=>k_is);(case c26=>k_is);(case k26=>k_is)
   ·refine' Lf.aat KX G ?a27 ?l27 ?c27 ?k27;(case a27=>k_is);(case l27=>k_is);(case c27=>k_is);(case k27=>k_is)
   ·refine' Lf.aat KX G ?a32 ?l32 ?c32 ?k32;(case a32=>k_is);(case l32=>k_is);(case c32=>k_is);(case k32=>k_is)
   ·refine' Lf.aat KX G ?a33 ?l33 ?c33 ?k33;(case a33=>k_is);(case l33=>k_is);(case c33=>k_is);(case k33=>k_is)
   ·refine' Lf.aat KX G ?a34 ?l34 ?c34 ?k34;(case a34=>k_is);(case l34=>k_is);(case c34=>k_is);(case k34=>k_is)
   ·refine' Lf.aat KX G ?a35 ?l35 ?c35 ?k35;(case a35=>k_is);(case l35=>k_is);(case c35=>k_is);(case k35=>k_is)
   ·refine' Lf.aat KX G ?a43 ?l43 ?c43 ?k43;(case a43=>k_is);(case l43=>k_is);(case c43=>k_is);(case k43=>k_is)
   ·refine' Lf.aat KX G ?a44 ?l44 ?c44 ?k44;(case a44=>k_is);(case l44=>k_is);(case c44=>k_is);(case k44=>k_is)
   ·refine' Lf.aat KX G ?a45 ?l45 ?c45 ?k45;(case a45=>k_is);(case l45=>k_is);(case c45=>k_is);(case k45=>k_is)
   ·refine' Lf.aat KX G ?a46 ?l46 ?c46 ?k46;(case a46=>k_is);(case l46=>k_is);(case c46=>k_is);(case k46=>k_is)
   ·refine' Lf.aat KX G ?a47 ?l47 ?c47 ?k47;(case a47=>k_is);(case l47=>k_is);(case c47=>k_is);(case k47=>k_is)
   ·refine' Lf.aat KX G ?a48 ?l48 ?c48 ?k48;(case a48=>k_is);(case l48=>k_is);(case c48=>k_is);(case k48=>k_is)
   ·refine' Lf.aat KX G ?a49 ?l49 ?c49 ?k49;(case a49=>k_is);(case l49=>k_is);(case c49=>k_is);(case k49=>k_is)
   ·refine' Lf.aat KX G ?a50 ?l50 ?c50 ?k50;(case a50=>k_is);(case l50=>k_is);(case c50=>k_is);(case k50=>k_is)
   ·refine' Lf.aat KX G ?a51 ?l51 ?c51 ?k51;(case a51=>k_is);(case l51=>k_is);(case c51=>k_is);(case k51=>k_is)
   ·refine' Lf.aat KX G ?a52 ?l52 ?c52 ?k52;(case a52=>k_is);(case l52=>k_is);(case c52=>k_is);(case k52=>k_is)
   ·refine' Lf.aat KX G ?a53 ?l53 ?c53 ?k53;(case a53=>k_is);(case l53=>k_is);(case c53=>k_is);(case k53=>k_is)
   ·refine' Lf.aat KX G ?a54 ?l54 ?c54 ?k54;(case a54=>k_is);(case l54=>k_is);(case c54=>k_is);(case k54=>k_is)
   ·refine' Lf.aat KX G ?a58 ?l58 ?c58 ?k58;(case a58=>k_is);(case l58=>k_is);(case c58=>k_is);(case k58=>k_is)
   ·refine' Lf.aat KX G ?a59 ?l59 ?c59 ?k59;(case a59=>k_is);(case l59=>k_is);(case c59=>k_is);(case k59=>k_is)
   ·refine' Lf.aat KX G ?a60 ?l60 ?c60 ?k60;(case a60=>k_is);(case l60=>k_is);(case c60=>k_is);(case k60=>k_is)
   ·refine' Lf.aat KX G ?a61 ?l61 ?c61 ?k61;(case a61=>k_is);(case l61=>k_is);(case c61=>k_is);(case k61=>k_is)
   ·refine' Lf.aat KX G ?a62 ?l62 ?c62 ?k62;(case a62=>k_is);(case l62=>k_is);(case c62=>k_is);(case k62=>k_is)
   ·refine' Lf.aat KX G ?a63 ?l63 ?c63 ?k63;(case a63=>k_is);(case l63=>k_is);(case c63=>k_is);(case k63=>k_is)
   ·refine' Lf.aat KX G ?a72 ?l72 ?c72 ?k72;(case a72=>k_is);(case l72=>k_is);(case c72=>k_is);(case k72=>k_is)
   ·refine' Lf.aat KX G ?a73 ?l73 ?c73 ?k73;(case a73=>k_is);(case l73=>k_is);(case c73=>k_is);(case k73=>k_is)
   ·refine' Lf.aat KX G ?a74 ?l74 ?c74 ?k74;(case a74=>k_is);(case l74=>k_is);(case c74=>k_is);(case k74=>k_is)
   ·refine' Lf.aat KX G ?a75 ?l75 ?c75 ?k75;(case a75=>k_is);(case l75=>k_is);(case c75=>k_is);(case k75=>k_is)
   ·refine' Lf.aat KX G ?a76 ?l76 ?c76 ?k76;(case a76=>k_is);(case l76=>k_is);(case c76=>k_is);(case k76=>k_is)
   ·refine' Lf.aat KX G ?a77 ?l77 ?c77 ?k77;(case a77=>k_is);(case l77=>k_is);(case c77=>k_is);(case k77=>k_is)
   ·refine' Lf.aat KX G ?a78 ?l78 ?c78 ?k78;(case a78=>k_is);(case l78=>k_is);(case c78=>k_is);(case k78=>k_is)
   ·refine' Lf.aat KX G ?a79 ?l79 ?c79 ?k79;(case a79=>k_is);(case l79=>k_is);(case c79=>k_is);(case k79=>k_is)
   ·refine' Lf.aat KX G ?a80 ?l80 ?c80 ?k80;(case a80=>k_is);(case l80=>k_is);(case c80=>k_is);(case k80=>k_is)
   ·refine' Lf.aat KX G ?a81 ?l81 ?c81 ?k81;(case a81=>k_is);(case l81=>k_is);(case c81=>k_is);(case k81=>k_is)
   ·refine' Lf.aat KX G ?a82 ?l82 ?c82 ?k82;(case a82=>k_is);(case l82=>k_is);(case c82=>k_is);(case k82=>k_is)
   ·refine' Lf.aat KX G ?a86 ?l86 ?c86 ?k86;(case a86=>k_is);(case l86=>k_is);(case c86=>k_is);(case k86=>k_is)
   ·refine' Lf.aat KX G ?a87 ?l87 ?c87 ?k87;(case a87=>k_is);(case l87=>k_is);(case c87=>k_is);(case k87=>k_is)
   ·refine' Lf.aat KX G ?a88 ?l88 ?c88 ?k88;(case a88=>k_is);(case l88=>k_is);(case c88=>k_is);(case k88=>k_is)
   ·refine' Lf.aat KX G ?a89 ?l89 ?c89 ?k89;(case a89=>k_is);(case l89=>k_is);(case c89=>k_is);(case k89=>k_is)
   ·refine' Lf.aat KX G ?a90 ?l90 ?c90 ?k90;(case a90=>k_is);(case l90=>k_is);(case c90=>k_is);(case k90=>k_is)
   ·refine' Lf.aat KX G ?a91 ?l91 ?c91 ?k91;(case a91=>k_is);(case l91=>k_is);(case c91=>k_is);(case k91=>k_is)
   ·refine' Lf.aat KX G ?a93 ?l93 ?c93 ?k93;(case a93=>k_is);(case l93=>k_is);(case c93=>k_is);(case k93=>k_is)
   ·refine' Lf.aat KX G ?a94 ?l94 ?c94 ?k94;(case a94=>k_is);(case l94=>k_is);(case c94=>k_is);(case k94=>k_is)
   ·refine' Lf.aat KX G ?a95 ?l95 ?c95 ?k95;(case a95=>k_is);(case l95=>k_is);(case c95=>k_is);(case k95=>k_is)
   ·refine' Lf.aat KX G ?a96 ?l96 ?c96 ?k96;(case a96=>k_is);(case l96=>k_is);(case c96=>k_is);(case k96=>k_is)
   ·refine' Lf.aat KX G ?a97 ?l97 ?c97 ?k97;(case a97=>k_is);(case l97=>k_is);(case c97=>k_is);(case k97=>k_is)
   ·refine' Lf.aat KX G ?a98 ?l98 ?c98 ?k98;(case a98=>k_is);(case l98=>k_is);(case c98=>k_is);(case k98=>k_is)
   ·refine' Lf.aat KX G ?a99 ?l99 ?c99 ?k99;(case a99=>k_is);(case l99=>k_is);(case c99=>k_is);(case k99=>k_is)
   ·refine' Lf.aat KX G ?a100 ?l100 ?c100 ?k100;(case a100=>k_is);(case l100=>k_is);(case c100=>k_is);(case k100=>k_is)
   ·refine' Lf.aat KX G ?a101 ?l101 ?c101 ?k101;(case a101=>k_is);(case l101=>k_is);(case c101=>k_is);(case k101=>k_is)
   ·refine' Lf.aat KX G ?a102 ?l102 ?c102 ?k102;(case a102=>k_is);(case l102=>k_is);(case c102=>k_is);(case k102=>k_is)
   ·refine' Lf.aat KX G ?a103 ?l103 ?c103 ?k103;(case a103=>k_is);(case l103=>k_is);(case c103=>k_is);(case k103=>k_is)
   ·refine' Lf.aat KX G ?a106 ?l106 ?c106 ?k106;(case a106=>k_is);(case l106=>k_is);(case c106=>k_is);(case k106=>k_is)
   ·refine' Lf.aat KX G ?a107 ?l107 ?c107 ?k107;(case a107=>k_is);(case l107=>k_is);(case c107=>k_is);(case k107=>k_is)
   ·refine' Lf.aat KX G ?a108 ?l108 ?c108 ?k108;(case a108=>k_is);(case l108=>k_is);(case c108=>k_is);(case k108=>k_is)
   ·refine' Lf.aat KX G ?a109 ?l109 ?c109 ?k109;(case a109=>k_is);(case l109=>k_is);(case c109=>k_is);(case k109=>k_is)
   ·refine' Lf.aat KX G ?a110 ?l110 ?c110 ?k110;(case a110=>k_is);(case l110=>k_is);(case c110=>k_is);(case k110=>k_is)
   ·refine' Lf.aat KX G ?a111 ?l111 ?c111 ?k111;(case a111=>k_is);(case l111=>k_is);(case c111=>k_is);(case k111=>k_is)
   ·refine' Lf.aat KX G ?a112 ?l112 ?c112 ?k112;(case a112=>k_is);(case l112=>k_is);(case c112=>k_is);(case k112=>k_is)
   ·refine' Lf.aat KX G ?a113 ?l113 ?c113 ?k113;(case a113=>k_is);(case l113=>k_is);(case c113=>k_is);(case k113=>k_is)
   ·refine' Lf.aat KX G ?a114 ?l114 ?c114 ?k114;(case a114=>k_is);(case l114=>k_is);(case c114=>k_is);(case k114=>k_is)
   ·refine' Lf.aat KX G ?a115 ?l115 ?c115 ?k115;(case a115=>k_is);(case l115=>k_is);(case c115=>k_is);(case k115=>k_is)
   ·refine' Lf.aat KX G ?a116 ?l116 ?c116 ?k116;(case a116=>k_is);(case l116=>k_is);(case c116=>k_is);(case k116=>k_is)
   ·refine' Lf.aat KX G ?a117 ?l117 ?c117 ?k117;(case a117=>k_is);(case l117=>k_is);(case c117=>k_is);(case k117=>k_is)
   ·refine' Lf.aat KX G ?a118 ?l118 ?c118 ?k118;(case a118=>k_is);(case l118=>k_is);(case c118=>k_is);(case k118=>k_is)
   ·refine' Lf.aat KX G ?a119 ?l119 ?c119 ?k119;(case a119=>k_is);(case l119=>k_is);(case c119=>k_is);(case k119=>k_is)
   ·refine' Lf.aat KX G ?a123 ?l123 ?c123 ?k123;(case a123=>k_is);(case l123=>k_is);(case c123=>k_is);(case k123=>k_is)
   ·refine' Lf.aat KX G ?a124 ?l124 ?c124 ?k124;(case a124=>k_is);(case l124=>k_is);(case c124=>k_is);(case k124=>k_is)
  obtain ⟨cFare,hFare⟩: ∃C,Lf.Dc (L2.KOf KX) mg "Fare" "Fare.__init__" (L2.inClass (Lf.top 3) 0) C ["self","numbers"]/\L2.bF (L2.KOf KX) C "numbers"/\L2.bF (L2.KOf KX) C "key"/\L2.bF (L2.KOf KX) C "carrier"/\L2.bF (L2.KOf KX) C "near"/\L2.bF (L2.KOf KX) C "far"/\L2.bF (L2.KOf KX) C "way"/\L2.bF (L2.KOf KX) C "amount"/\L2.bF (L2.KOf KX) C "classes"/\L2.bF (L2.KOf KX) C "weekdays"/\L2.bF (L2.KOf KX) C "days_ahead"/\L2.bF (L2.KOf KX) C "least_stay"/\L2.bF (L2.KOf KX) C "most_stay"/\L2.bF (L2.KOf KX) C "group"/\L2.bF (L2.KOf KX) C "open_ends"/\L2.bF (L2.KOf KX) C "kinds"/\L2.bF (L2.KOf KX) C "most_segments" :=by
   dsimp only [L2.KOf,L2.bF]
   refine' ⟨_,Lf.aau KX G ?aFare ?iFare ?fFare ?lFare ?cFare ?kFare ?pgFare ?hdFare ?poFare ?saFare ?mkFare ?kcFare ?bFare,?n0Fare,?n1Fare,?n2Fare,?n3Fare,?n4Fare,?n5Fare,?n6Fare,?n7Fare,?n8Fare,?n9Fare,?n10Fare,?n11Fare,?n12Fare,?n13Fare,?n14Fare,?n15Fare⟩
   (case aFare=>k_is);(case iFare=>k_is);(case fFare=>k_is);(case lFare=>k_is);(case cFare=>k_is);(case kFare=>k_is);(case pgFare=>k_is);(case hdFare=>k_is);(case poFare=>k_is);(case saFare=>k_is);(case mkFare=>k_is);(case kcFare=>k_is);(case bFare=>exact λ_ _ _ _ _ _ us hl=>match us,hl with| [_,_],_=>rfl)
   all_goals k_is
  obtain ⟨cSegment,hSegment⟩: ∃C,Lf.Dc (L2.KOf KX) mg "Segment" "Segment.__init__" (L2.inClass (Lf.top 4) 0) C ["self","numbers"]/\L2.bF (L2.KOf KX) C "numbers"/\L2.bF (L2.KOf KX) C "carrier"/\L2.bF (L2.KOf KX) C "origin"/\L2.bF (L2.KOf KX) C "target"/\L2.bF (L2.KOf KX) C "day"/\L2.bF (L2.KOf KX) C "booking" :=by
   dsimp only [L2.KOf,L2.bF]
   refine' ⟨_,Lf.aau KX G ?aSegment ?iSegment ?fSegment ?lSegment ?cSegment ?kSegment ?pgSegment ?hdSegment ?poSegment ?saSegment ?mkSegment ?kcSegment ?bSegment,?n0Segment,?n1Segment,?n2Segment,?n3Segment,?n4Segment,?n5Segment⟩
   (case aSegment=>k_is);(case iSegment=>k_is);(case fSegment=>k_is);(case lSegment=>k_is);(case cSegment=>k_is);(case kSegment=>k_is);(case pgSegment=>k_is);(case hdSegment=>k_is);(case poSegment=>k_is);(case saSegment=>k_is);(case mkSegment=>k_is);(case kcSegment=>k_is);(case bSegment=>exact λ_ _ _ _ _ _ us hl=>match us,hl with| [_,_],_=>rfl)
   all_goals k_is
  obtain ⟨cJourney,hJourney⟩: ∃C,Lf.Dc (L2.KOf KX) mg "Journey" "Journey.__init__" (L2.inClass (Lf.top 5) 0) C ["self","now","segments"]/\L2.bF (L2.KOf KX) C "now"/\L2.bF (L2.KOf KX) C "segments" :=by
   dsimp only [L2.KOf,L2.bF]
   refine' ⟨_,Lf.aau KX G ?aJourney ?iJourney ?dS ?lJourney ?cJourney ?kJourney ?pgJourney ?hdJourney ?poJourney ?saJourney ?mkJourney ?kcJourney ?bJourney,?n0Journey,?n1Journey⟩
   (case aJourney=>k_is);(case iJourney=>k_is);(case dS=>k_is);(case lJourney=>k_is);(case cJourney=>k_is);(case kJourney=>k_is);(case pgJourney=>k_is);(case hdJourney=>k_is);(case poJourney=>k_is);(case saJourney=>k_is);(case mkJourney=>k_is);(case kcJourney=>k_is);(case bJourney=>exact λ_ _ _ _ _ _ us hl=>match us,hl with| [_,_,_],_=>rfl)
   all_goals k_is
  obtain ⟨cHouse,hHouse⟩: ∃C,Lf.Dc (L2.KOf KX) mg "House" "House.__init__" (L2.inClass (Lf.top 6) 0) C ["self"]/\L2.bF (L2.KOf KX) C "fares"/\L2.bF (L2.KOf KX) C "together"/\L2.bF (L2.KOf KX) C "floors"/\L2.bF (L2.KOf KX) C "taxes"/\L2.bF (L2.KOf KX) C "percents"/\L2.bF (L2.KOf KX) C "unit"/\L2.bF (L2.KOf KX) C "journey" :=by
   dsimp only [L2.KOf,L2.bF]
   refine' ⟨_,Lf.aau KX G ?aHouse ?iHouse ?fHouse ?lHouse ?cHouse ?kHouse ?pgHouse ?hdHouse ?poHouse ?saHouse ?mkHouse ?kcHouse ?bHouse,?n0House,?n1House,?n2House,?n3House,?n4House,?n5House,?n6House⟩
   (case aHouse=>k_is);(case iHouse=>k_is);(case fHouse=>k_is);(case lHouse=>k_is);(case cHouse=>k_is);(case kHouse=>k_is);(case pgHouse=>k_is);(case hdHouse=>k_is);(case poHouse=>k_is);(case saHouse=>k_is);(case mkHouse=>k_is);(case kcHouse=>k_is);(case bHouse=>exact λ_ _ _ _ _ _ us hl=>match us,hl with| [_],_=>rfl)
   all_goals k_is
  obtain ⟨cComponent,hComponent⟩: ∃C,Lf.Dc (L2.KOf KX) mg "Component" "Component.__init__" (L2.inClass (Lf.top 41) 0) C ["self","house","first","last"]/\L2.bF (L2.KOf KX) C "first"/\L2.bF (L2.KOf KX) C "last"/\L2.bF (L2.KOf KX) C "segments"/\L2.bF (L2.KOf KX) C "origin"/\L2.bF (L2.KOf KX) C "target"/\L2.bF (L2.KOf KX) C "day"/\L2.bF (L2.KOf KX) C "days_left"/\L2.bF (L2.KOf KX) C "floor" :=by
   dsimp only [L2.KOf,L2.bF]
   refine' ⟨_,Lf.aau KX G ?aComponent ?iComponent ?fComponent ?lComponent ?cComponent ?kComponent ?pgComponent ?hdComponent ?poComponent ?saComponent ?mkComponent ?kcComponent ?bComponent,?n0Component,?n1Component,?n2Component,?n3Component,?n4Component,?n5Component,?n6Component,?n7Component⟩
   (case aComponent=>k_is);(case iComponent=>k_is);(case fComponent=>k_is);(case lComponent=>k_is);(case cComponent=>k_is);(case kComponent=>k_is);(case pgComponent=>k_is);(case hdComponent=>k_is);(case poComponent=>k_is);(case saComponent=>k_is);(case mkComponent=>k_is);(case kcComponent=>k_is);(case bComponent=>exact λ_ _ _ _ _ _ us hl=>match us,hl with| [_,_,_,_],_=>rfl)
   all_goals k_is
  obtain ⟨cOffers,hOffers⟩: ∃C,Lf.Dc (L2.KOf KX) mg "Offers" "Offers.__init__" (L2.inClass (Lf.top 42) 0) C ["self","house","kind","component"]/\L2.bF (L2.KOf KX) C "component"/\L2.bF (L2.KOf KX) C "singles"/\L2.bF (L2.KOf KX) C "outs"/\L2.bF (L2.KOf KX) C "homes" :=by
   dsimp only [L2.KOf,L2.bF]
   refine' ⟨_,Lf.aau KX G ?aOffers ?iOffers ?fOffers ?lOffers ?cOffers ?kOffers ?pgOffers ?hdOffers ?poOffers ?saOffers ?mkOffers ?kcOffers ?bOffers,?n0Offers,?n1Offers,?n2Offers,?n3Offers⟩
   (case aOffers=>k_is);(case iOffers=>k_is);(case fOffers=>k_is);(case lOffers=>k_is);(case cOffers=>k_is);(case kOffers=>k_is);(case pgOffers=>k_is);(case hdOffers=>k_is);(case poOffers=>k_is);(case saOffers=>k_is);(case mkOffers=>k_is);(case kcOffers=>k_is);(case bOffers=>exact λ_ _ _ _ _ _ us hl=>match us,hl with| [_,_,_,_],_=>rfl)
   all_goals k_is
  obtain ⟨cChoice,hChoice⟩: ∃C,Lf.Dc (L2.KOf KX) mg "Choice" "Choice.__init__" (L2.inClass (Lf.top 85) 0) C ["self","paid","parts"]/\L2.bF (L2.KOf KX) C "paid"/\L2.bF (L2.KOf KX) C "parts"/\L2.bF (L2.KOf KX) C "covers" :=by
   dsimp only [L2.KOf,L2.bF]
   refine' ⟨_,Lf.aau KX G ?aChoice ?iChoice ?fChoice ?lChoice ?cChoice ?kChoice ?pgChoice ?hdChoice ?poChoice ?saChoice ?mkChoice ?kcChoice ?bChoice,?n0Choice,?n1Choice,?n2Choice⟩
   (case aChoice=>k_is);(case iChoice=>k_is);(case fChoice=>k_is);(case lChoice=>k_is);(case cChoice=>k_is);(case kChoice=>k_is);(case pgChoice=>k_is);(case hdChoice=>k_is);(case poChoice=>k_is);(case saChoice=>k_is);(case mkChoice=>k_is);(case kcChoice=>k_is);(case bChoice=>exact λ_ _ _ _ _ _ us hl=>match us,hl with| [_,_,_],_=>rfl)
   all_goals k_is
  have ks:Lf.Ks (L2.KOf KX) mg ⟨cFare,cSegment,cJourney,cHouse,cComponent,cOffers,cChoice⟩:=⟨hFare.1,hSegment.1,hJourney.1,hHouse.1,hComponent.1,hOffers.1,hChoice.1,hFare.2.1,hFare.2.2.1,hFare.2.2.2.1,hFare.2.2.2.2.1,hFare.2.2.2.2.2.1,hFare.2.2.2.2.2.2.1,hFare.2.2.2.2.2.2.2.1,hFare.2.2.2.2.2.2.2.2.1,hFare.2.2.2.2.2.2.2.2.2.1,hFare.2.2.2.2.2.2.2.2.2.2.1,hFare.2.2.2.2.2.2.2.2.2.2.2.1,hFare.2.2.2.2.2.2.2.2.2.2.2.2.1,hFare.2.2.2.2.2.2.2.2.2.2.2.2.2.1,hFare.2.2.2.2.2.2.2.2.2.2.2.2.2.2.1,hFare.2.2.2.2.2.2.2.2.2.2.2.2.2.2.2.1,hFare.2.2.2.2.2.2.2.2.2.2.2.2.2.2.2.2,hSegment.2.1,hSegment.2.2.1,hSegment.2.2.2.1,hSegment.2.2.2.2.1,hSegment.2.2.2.2.2.1,hSegment.2.2.2.2.2.2,hJourney.2.1,hJourney.2.2,hHouse.2.1,hHouse.2.2.1,hHouse.2.2.2.1,hHouse.2.2.2.2.1,hHouse.2.2.2.2.2.1,hHouse.2.2.2.2.2.2.1,hHouse.2.2.2.2.2.2.2,hComponent.2.1,hComponent.2.2.1,hComponent.2.2.2.1,hComponent.2.2.2.2.1,hComponent.2.2.2.2.2.1,hComponent.2.2.2.2.2.2.1,hComponent.2.2.2.2.2.2.2.1,hComponent.2.2.2.2.2.2.2.2,hOffers.2.1,hOffers.2.2.1,hOffers.2.2.2.1,hOffers.2.2.2.2,hChoice.2.1,hChoice.2.2.1,hChoice.2.2.2⟩
  have nums: ∃a,mg "NUMBERS" =some (.ref a)/\Lf.vg (L2.KOf KX) (.ref a)=some Lf.fV:=by
   dsimp only [L2.KOf]
   refine' Lf.Xs KX G ?aN ?bN
   (case aN=>k_is)
   (case bN=>kernel_rfl)
  have rws:Lf.OX PySem.Challenge.rw_leastfares_s01_answers.prog w (L2.KOf KX) mg:=by
   dsimp only [L2.KOf]
   refine' Lf.VD KX G ?aR ?lR ?c1R ?c2R ?c3R ?c4R ?e7R ?e9R ?e12R ?f7R ?f9R ?f12R
   (case aR=>k_is);(case lR=>k_is);(case c1R=>rfl);(case c2R=>rfl);(case c3R=>rfl);(case c4R=>decide);(case e7R=>rfl);(case e9R=>rfl);(case e12R=>rfl);(case f7R=>kernel_rfl);(case f9R=>kernel_rfl);(case f12R=>kernel_rfl)
  have tCHANGES:Lf.si (L2.KOf KX) mg:=by
   dsimp only [L2.KOf]
   refine' Lf.PU KX G ?aCHANGES ?lCHANGES ?cCHANGES ?e0CHANGES ?e1CHANGES ?e2CHANGES ?e3CHANGES ?e4CHANGES ?e5CHANGES ?e6CHANGES ?e7CHANGES
   (case aCHANGES=>k_is);(case lCHANGES=>k_is);(case cCHANGES=>rfl)
   all_goals k_is
  have tQUESTIONS:Lf.nX (L2.KOf KX) mg:=by
   dsimp only [L2.KOf]
   refine' Lf.MY KX G ?aQUESTIONS ?lQUESTIONS ?cQUESTIONS ?e0QUESTIONS ?e1QUESTIONS ?e2QUESTIONS ?e3QUESTIONS ?e4QUESTIONS ?e5QUESTIONS ?e6QUESTIONS ?e7QUESTIONS ?e8QUESTIONS ?e9QUESTIONS
   (case aQUESTIONS=>k_is);(case lQUESTIONS=>k_is);(case cQUESTIONS=>rfl)
   all_goals k_is
  exact Lf.WL ⟨bl,cs,ds,ks,nums,rws,tCHANGES,tQUESTIONS⟩ hmg
 case S=>
  intro K H xs a hO Qh hask hx
  cases hx with
  |cons h1 h2=>
   cases h2
   cases h1 with
   |lst hs ha=>
    have e:=L2.M7 a.1 _ ha
    subst e
    obtain ⟨cs,r1,_,r2,r3,r4⟩:=Lf.OT (l:=a.1) hask
    refine ⟨_,a.1,cs,rfl,hs,r1,r2,λc hc=>Lf.OU (r3 c hc),λH' la hla=>?_⟩
    show L2.Dw K H' (.ref la) (.list ((PyVbahaf.answers a.1).map .int))
    rw [r4]
    exact .lst (L2.iF.of hla) (L2.NK _)
